import PyProof.Rows.All
import Wide.All
import OpenK.AllK
import Wide.FinOn
import PyProof.EqAt
import PyProof.EqKinds
import PyProof.TupleCall
import HandS.ForMost
import HandS.ForExc
import HandS.Evl
import HandS.Codes
import HandS.IsInst
import HandS.Property
import HandS.Style
import HandS.RevRange
import HandS.Nested
import HandS.Flow
import HandS.ExcIs
import HandS.RaiseMore
import HandS.FStr
import HandS.Property
import HandS.Nested
import HandS.RevRange
import HandS.EndTab
import PySem.Challenge.RW_turnstile_k03_whole_first_broken
set_option Elab.async false
set_option linter.all false
set_option maxRecDepth 100000
set_option maxHeartbeats 1000000
namespace Tk
open PySem PySem.Spec PyProof.Rows L2 Evl
/-! Big steps over the readings: what a block hands back, or with which slots it falls through; the heap only grows. -/
def Rt (t : TS) (σ : L2.St) (H : Hp) (v : V) : Prop := ∀ H1, Ex H H1 → ∀ D : Ends, (∀ H2, Ex H1 H2 → D.rt v H2) → t D σ H1
def Nx (t : TS) (σ : L2.St) (H : Hp) (σ' : L2.St) : Prop := ∀ H1, Ex H H1 → ∀ D : Ends, (∀ H2, Ex H1 H2 → D.nx σ' H2) → t D σ H1
/-- .. a value by what is true of it and the heap -/
def RtW (t : TS) (σ : L2.St) (H : Hp) (W : V → Hp → Prop) : Prop := ∀ H1, Ex H H1 → ∀ D : Ends, (∀ v H2, Ex H1 H2 → W v H2 → D.rt v H2) → t D σ H1
def EvW (te : TE) (σ : L2.St) (H : Hp) (W : V → Hp → Prop) : Prop := ∀ H1, Ex H H1 → ∀ Q : VK, (∀ v H2, Ex H1 H2 → W v H2 → Q v H2) → te σ H1 Q
section
variable {σ σ' σ'' : L2.St} {H H' : Hp} {v x y z : V} {te ta tb : TE} {t u tw tz : TS} {c c2 : TT} {b : Bool} {W : V → Hp → Prop} {K : PySem.W.Frag} {r : R2}
theorem Rt.mono (e : Ex H H') (h : Rt t σ H v) : Rt t σ H' v := fun H1 a D q => h H1 (e.trans a) D q
theorem Nx.mono (e : Ex H H') (h : Nx t σ H σ') : Nx t σ H' σ' := fun H1 a D q => h H1 (e.trans a) D q
theorem Rt.w (h : Rt t σ H v) (hw : ∀ H1, Ex H H1 → W v H1) : RtW t σ H W := fun H1 e D q => h H1 e D fun H2 e2 => q v H2 e2 (hw H2 (e.trans e2))
theorem Rt.is (h : Rt t σ H x) (e : x = y) : Rt t σ H y := e ▸ h
theorem Nx.is (h : Nx t σ H σ') (e : σ' = σ'') : Nx t σ H σ'' := e ▸ h
theorem rt_ret (h : Ev te σ H v) : Rt (tRet te) σ H v := fun H1 e D q => h H1 e _ fun H2 e2 => q H2 e2
theorem rt_retN : Rt tRetN σ H .non := fun H1 _ D q => q H1 (Ex.refl H1)
theorem rtw_ret (h : EvW te σ H W) : RtW (tRet te) σ H W := fun H1 e D q => h H1 e _ fun v H2 e2 w => q v H2 e2 w
theorem rt_seq (h : Nx t σ H σ') (k : Rt u σ' H v) : Rt (tSeq t u) σ H v := fun H1 e D q => h H1 e { D with nx := u D } fun H2 e2 => k H2 (e.trans e2) D fun H3 e3 => q H3 (e2.trans e3)
theorem rtw_seq (h : Nx t σ H σ') (k : RtW u σ' H W) : RtW (tSeq t u) σ H W := fun H1 e D q => h H1 e { D with nx := u D } fun H2 e2 => k H2 (e.trans e2) D fun v H3 e3 w => q v H3 (e2.trans e3) w
theorem rt_now (h : Rt t σ H v) : Rt (tSeq t u) σ H v := fun H1 e D q => h H1 e { D with nx := u D } q
theorem rtw_now (h : RtW t σ H W) : RtW (tSeq t u) σ H W := fun H1 e D q => h H1 e { D with nx := u D } q
theorem nx_seq (h : Nx t σ H σ') (k : Nx u σ' H σ'') : Nx (tSeq t u) σ H σ'' := fun H1 e D q => h H1 e { D with nx := u D } fun H2 e2 => k H2 (e.trans e2) D fun H3 e3 => q H3 (e2.trans e3)
theorem nx_next : Nx tNext σ H σ := fun H1 _ D q => q H1 (Ex.refl H1)
theorem nx_asg {i : Nat} (h : Ev te σ H v) : Nx (tAsg te (gName i)) σ H (σ.set i (some v)) := fun H1 e D q => h H1 e _ fun H2 e2 => q H2 e2
theorem nx_drop (h : Ev te σ H v) : Nx (tDrop te) σ H σ := fun H1 e D q => h H1 e _ fun H2 e2 => q H2 e2
theorem nx_aug {i : Nat} {f : Int → Int → Int} {a d : Int} (hx : σ[i]? = some (some (.int a))) (h : Ev te σ H (.int d)) : Nx (tAug i te (ipI f)) σ H (σ.set i (some (.int (f a d)))) := fun H1 e D q =>
  ⟨.int a, hx, h H1 e _ fun H2 e2 => ⟨a, d, rfl, rfl, q H2 e2⟩⟩
theorem rt_if (h : EvT c σ H b) (h1 : b = true → Rt t σ H v) (h2 : b = false → Rt u σ H v) : Rt (tIfS c t u) σ H v := fun H1 e D q => h H1 e _ fun H2 e2 => by
  cases b with
  | true =>
    show t D σ H2
    exact h1 rfl H2 (e.trans e2) D fun H3 e3 => q H3 (e2.trans e3)
  | false =>
    show u D σ H2
    exact h2 rfl H2 (e.trans e2) D fun H3 e3 => q H3 (e2.trans e3)
theorem rtw_if (h : EvT c σ H b) (h1 : b = true → RtW t σ H W) (h2 : b = false → RtW u σ H W) : RtW (tIfS c t u) σ H W := fun H1 e D q => h H1 e _ fun H2 e2 => by
  cases b with
  | true =>
    show t D σ H2
    exact h1 rfl H2 (e.trans e2) D fun v H3 e3 w => q v H3 (e2.trans e3) w
  | false =>
    show u D σ H2
    exact h2 rfl H2 (e.trans e2) D fun v H3 e3 w => q v H3 (e2.trans e3) w
theorem nx_if (h : EvT c σ H b) (h1 : b = true → Nx t σ H σ') (h2 : b = false → Nx u σ H σ') : Nx (tIfS c t u) σ H σ' := fun H1 e D q => h H1 e _ fun H2 e2 => by
  cases b with
  | true =>
    show t D σ H2
    exact h1 rfl H2 (e.trans e2) D fun H3 e3 => q H3 (e2.trans e3)
  | false =>
    show u D σ H2
    exact h2 rfl H2 (e.trans e2) D fun H3 e3 => q H3 (e2.trans e3)
/-- if c: leaves; rest -/
theorem rt_ifseq (h : EvT c σ H b) (h1 : b = true → Rt t σ H v) (h2 : b = false → Rt tz σ H v) : Rt (tSeq (tIfS c t tNext) tz) σ H v := fun H1 e D q => h H1 e _ fun H2 e2 => by
  cases b with
  | true =>
    show t { D with nx := tz D } σ H2
    exact h1 rfl H2 (e.trans e2) _ fun H3 e3 => q H3 (e2.trans e3)
  | false =>
    show tz D σ H2
    exact h2 rfl H2 (e.trans e2) D fun H3 e3 => q H3 (e2.trans e3)
theorem rtw_ifseq (h : EvT c σ H b) (h1 : b = true → RtW t σ H W) (h2 : b = false → RtW tz σ H W) : RtW (tSeq (tIfS c t tNext) tz) σ H W := fun H1 e D q => h H1 e _ fun H2 e2 => by
  cases b with
  | true =>
    show t { D with nx := tz D } σ H2
    exact h1 rfl H2 (e.trans e2) _ fun v H3 e3 w => q v H3 (e2.trans e3) w
  | false =>
    show tz D σ H2
    exact h2 rfl H2 (e.trans e2) D fun v H3 e3 w => q v H3 (e2.trans e3) w
theorem Rt.fin {Q : VK} {N : L2.St → Hp → Prop} (h : Rt t σ H v) (k : RetV v H Q) : t { nx := N, rt := Q } σ H := h H (Ex.refl H) _ fun H2 e => k H2 e
theorem RtW.fin {Q : VK} {N : L2.St → Hp → Prop} (h : RtW t σ H W) (k : ∀ v H2, Ex H H2 → W v H2 → Q v H2) : t { nx := N, rt := Q } σ H := h H (Ex.refl H) _ fun v H2 e w => k v H2 e w
/-! loops whose turns are known: s i are the slots ahead of turn i -/
def GNx (g : TG) (u : TS) (x : V) (σ : L2.St) (H : Hp) (σ' : L2.St) : Prop := ∀ H1, Ex H H1 → ∀ D : Ends, (∀ H2, Ex H1 H2 → D.nx σ' H2) → g x σ H1 fun σ2 H2 => u D σ2 H2
def GRtW (g : TG) (u : TS) (x : V) (σ : L2.St) (H : Hp) (W : V → Hp → Prop) : Prop := ∀ H1, Ex H H1 → ∀ D : Ends, (∀ v H2, Ex H1 H2 → W v H2 → D.rt v H2) → g x σ H1 fun σ2 H2 => u D σ2 H2
structure Gen (J : It) (items : Nat → V) (n : Nat) (H : Hp) : Prop where
  go : ∀ i H1, Ex H H1 → i < n → J.go i H1
  yld : ∀ i x H1 H2, Ex H H1 → i < n → J.yld i H1 x H2 → H2 = H1 ∧ x = items i
  stop : ∀ H1, Ex H H1 → J.stop n H1
theorem gnx_name {j : Nat} (h : Nx u (σ.set j (some x)) H σ') : GNx (gName j) u x σ H σ' := fun H1 e D q => h H1 e D q
theorem grt_name {j : Nat} (h : Rt u (σ.set j (some x)) H v) : GRtW (gName j) u x σ H (fun v' _ => v' = v) := fun H1 e D q => h H1 e D fun H2 e2 => q v H2 e2 rfl
theorem grtw_name {j : Nat} (h : RtW u (σ.set j (some x)) H W) : GRtW (gName j) u x σ H W := fun H1 e D q => h H1 e D q
theorem gen_r {lo : Int} {n : Nat} : Gen (Itr lo n) (fun i => .int (lo + (i : Int))) n H := ⟨fun _ _ _ h => h, fun _ _ _ _ _ _ y => y, fun _ _ => Nat.le_refl _⟩
theorem gen_c {lo d : Int} {n : Nat} : Gen (Itc lo d n) (fun i => .int (lo + (i : Nat) * d)) n H := ⟨fun _ _ _ h => h, fun _ _ _ _ _ _ y => y, fun _ _ => Nat.le_refl _⟩
theorem gen_l {a : Addr} {xs : List V} {d : V} (h : SqL K H a xs) : Gen (Itl K a) (fun i => xs.getD i d) xs.length H :=
  ⟨fun i H1 e hi => ⟨xs, xs[i], ex_l e h, by simp [hi]⟩, fun i x H1 H2 e hi y => by
    obtain ⟨y1, y2⟩ := y
    refine ⟨y1, ?_⟩
    have z : xs[i]? = some x := y2 xs (ex_l e h)
    rw [List.getD_eq_getElem?_getD, z]
    rfl, fun H1 e => ⟨xs, ex_l e h, Nat.le_refl _⟩⟩
theorem gen_t {a : Addr} {xs : List V} {d : V} (h : SqT K H a xs) : Gen (Itt K a) (fun i => xs.getD i d) xs.length H :=
  ⟨fun i H1 e hi => ⟨xs, xs[i], ex_t e h, by simp [hi]⟩, fun i x H1 H2 e hi y => by
    obtain ⟨y1, y2⟩ := y
    refine ⟨y1, ?_⟩
    have z : xs[i]? = some x := y2 xs (ex_t e h)
    rw [List.getD_eq_getElem?_getD, z]
    rfl, fun H1 e => ⟨xs, ex_t e h, Nat.le_refl _⟩⟩
theorem for_nx {J : It} {items : Nat → V} {n : Nat} {g : TG} {H1 : Hp} {D : Ends} (s : Nat → L2.St) (G : Gen J items n H) (e : Ex H H1) (hs : ∀ i, i < n → GNx g u (items i) (s i) H (s (i + 1))) (q : ∀ H2, Ex H1 H2 → D.nx (s n) H2) :
    ∃ W : Nat → Nat → L2.St → Hp → Prop, (∃ m, W 0 m (s 0) H1) ∧ ∀ i m σ H, W i m σ H →
      (J.stop i H ∧ D.nx σ H) ∨ (J.go i H ∧ ∃ N : L2.St → Hp → Prop, (∀ σ' H', N σ' H' → ∃ m', m' < m ∧ W (i + 1) m' σ' H') ∧ ∀ x H', J.yld i H x H' → g x σ H' fun σ2 H2 => u { D with nx := N, ct := N, bk := D.nx } σ2 H2) := by
  refine ⟨fun i m σ H2 => m = n - i ∧ i ≤ n ∧ σ = s i ∧ Ex H1 H2, ⟨n, by simp, Nat.zero_le _, rfl, Ex.refl _⟩, ?_⟩
  rintro i m σ H2 ⟨rfl, hi, rfl, e2⟩
  by_cases hlt : i < n
  · refine .inr ⟨G.go i H2 (e.trans e2) hlt, fun σ' H' => σ' = s (i + 1) ∧ Ex H1 H', fun σ' H' p => ⟨n - (i + 1), by omega, rfl, hlt, p.1, p.2⟩, fun x H' y => ?_⟩
    obtain ⟨rfl, rfl⟩ := G.yld i x H2 H' (e.trans e2) hlt y
    exact hs i hlt _ (e.trans e2) _ fun H3 e3 => ⟨rfl, e2.trans e3⟩
  · obtain rfl : i = n := by omega
    exact .inl ⟨G.stop _ (e.trans e2), q _ e2⟩
theorem for_rt {J : It} {items : Nat → V} {n k : Nat} {g : TG} {H1 : Hp} {D : Ends} (s : Nat → L2.St) (G : Gen J items n H) (e : Ex H H1) (hk : k < n) (hs : ∀ i, i < k → GNx g u (items i) (s i) H (s (i + 1))) (hr : GRtW g u (items k) (s k) H W) (q : ∀ v H2, Ex H1 H2 → W v H2 → D.rt v H2) :
    ∃ W : Nat → Nat → L2.St → Hp → Prop, (∃ m, W 0 m (s 0) H1) ∧ ∀ i m σ H, W i m σ H →
      (J.stop i H ∧ D.nx σ H) ∨ (J.go i H ∧ ∃ N : L2.St → Hp → Prop, (∀ σ' H', N σ' H' → ∃ m', m' < m ∧ W (i + 1) m' σ' H') ∧ ∀ x H', J.yld i H x H' → g x σ H' fun σ2 H2 => u { D with nx := N, ct := N, bk := D.nx } σ2 H2) := by
  refine ⟨fun i m σ H2 => m = n - i ∧ i ≤ k ∧ σ = s i ∧ Ex H1 H2, ⟨n, by simp, Nat.zero_le _, rfl, Ex.refl _⟩, ?_⟩
  rintro i m σ H2 ⟨rfl, hi, rfl, e2⟩
  by_cases hlt : i < k
  · refine .inr ⟨G.go i H2 (e.trans e2) (by omega), fun σ' H' => σ' = s (i + 1) ∧ Ex H1 H', fun σ' H' p => ⟨n - (i + 1), by omega, rfl, hlt, p.1, p.2⟩, fun x H' y => ?_⟩
    obtain ⟨rfl, rfl⟩ := G.yld i x H2 H' (e.trans e2) (by omega) y
    exact hs i hlt _ (e.trans e2) _ fun H3 e3 => ⟨rfl, e2.trans e3⟩
  · obtain rfl : i = k := by omega
    refine .inr ⟨G.go _ H2 (e.trans e2) hk, fun _ _ => False, fun _ _ p => p.elim, fun x H' y => ?_⟩
    obtain ⟨rfl, rfl⟩ := G.yld _ x H2 H' (e.trans e2) hk y
    exact hr _ (e.trans e2) _ fun v H3 e3 w => q v H3 (e2.trans e3) w
/-- what a for walks, told at a heap -/
def EvI (wi : TI) (σ : L2.St) (H : Hp) (items : Nat → V) (n : Nat) : Prop := ∀ H1, Ex H H1 → ∀ R : It → Hp → Prop, (∀ J H2, Ex H1 H2 → Gen J items n H2 → R J H2) → wi σ H1 R
theorem ei_r1 {ta : TA} {n : Int} (h : EvA ta σ H [.int n]) (h1 : -(2 ^ 62) ≤ n) (h2 : n < 2 ^ 62) : EvI (iRng1 ta) σ H (fun i => .int (0 + (i : Int))) n.toNat := fun H1 e R q =>
  h H1 e _ fun H2 e2 => ⟨n, rfl, h1, h2, q _ H2 e2 gen_r⟩
theorem ei_r2 {ta : TA} {a n : Int} (h : EvA ta σ H [.int a, .int n]) (h1 : -(2 ^ 62) ≤ a ∧ a < 2 ^ 62 ∧ -(2 ^ 62) ≤ n ∧ n < 2 ^ 62) : EvI (iRng2 ta) σ H (fun i => .int (a + (i : Int))) (n - a).toNat := fun H1 e R q =>
  h H1 e _ fun H2 e2 => ⟨a, n, rfl, h1, q _ H2 e2 gen_r⟩
theorem ei_r3 {ta : TA} {a n d : Int} {m : Nat} (h : EvA ta σ H [.int a, .int n, .int d]) (h1 : RgC a n d m) : EvI (iRng3 ta) σ H (fun i => .int (a + (i : Nat) * d)) m := fun H1 e R q =>
  h H1 e _ fun H2 e2 => ⟨a, n, d, m, rfl, h1, q _ H2 e2 gen_c⟩
theorem ei_l {a : Addr} {xs : List V} (d : V) (h : Ev te σ H (.ref a)) (hx : SqL K H a xs) : EvI (iList K te) σ H (fun i => xs.getD i d) xs.length := fun H1 e R q =>
  h H1 e _ fun H2 e2 => ⟨a, rfl, ⟨xs, ex_l (e.trans e2) hx⟩, q _ H2 e2 (gen_l (ex_l (e.trans e2) hx))⟩
theorem ei_t {a : Addr} {xs : List V} (d : V) (h : Ev te σ H (.ref a)) (hx : SqT K H a xs) : EvI (iTup K te) σ H (fun i => xs.getD i d) xs.length := fun H1 e R q =>
  h H1 e _ fun H2 e2 => ⟨a, rfl, ⟨xs, ex_t (e.trans e2) hx⟩, q _ H2 e2 (gen_t (ex_t (e.trans e2) hx))⟩
/-- over a new tuple -/
theorem ei_tN {xs : List V} (d : V) (h : EvU te σ H xs) : EvI (iTup K te) σ H (fun i => xs.getD i d) xs.length := fun H1 e R q =>
  h H1 e _ fun p H2 _ e2 hp => ⟨p, rfl, ⟨xs, st_of hp⟩, q _ H2 e2 (gen_t (st_of hp))⟩
theorem GNx.mono {g : TG} (e : Ex H H') (h : GNx g u x σ H σ') : GNx g u x σ H' σ' := fun H1 a D q => h H1 (e.trans a) D q
theorem GRtW.mono {g : TG} (e : Ex H H') (h : GRtW g u x σ H W) : GRtW g u x σ H' W := fun H1 a D q => h H1 (e.trans a) D q
theorem nx_for {wi : TI} {items : Nat → V} {n : Nat} {g : TG} (s : Nat → L2.St) (h : EvI wi (s 0) H items n) (hs : ∀ i, i < n → GNx g u (items i) (s i) H (s (i + 1))) : Nx (tFor wi g u) (s 0) H (s n) := fun H1 e D q =>
  h H1 e _ fun J H2 e2 G => for_nx s G (Ex.refl H2) (fun i hi => (hs i hi).mono (e.trans e2)) fun H3 e3 => q H3 (e2.trans e3)
theorem rtw_for {wi : TI} {items : Nat → V} {n : Nat} {g : TG} (k : Nat) (s : Nat → L2.St) (h : EvI wi (s 0) H items n) (hk : k < n) (hs : ∀ i, i < k → GNx g u (items i) (s i) H (s (i + 1))) (hr : GRtW g u (items k) (s k) H W) : RtW (tFor wi g u) (s 0) H W := fun H1 e D q =>
  h H1 e _ fun J H2 e2 G => for_rt s G (Ex.refl H2) hk (fun i hi => (hs i hi).mono (e.trans e2)) (hr.mono (e.trans e2)) fun v H3 e3 w => q v H3 (e2.trans e3) w
theorem RtW.toV (h : RtW t σ H (fun v' _ => v' = v)) : Rt t σ H v := fun H1 e D q => h H1 e D fun v' H2 e2 w => by rw [w]; exact q H2 e2
theorem Rt.toW (h : Rt t σ H v) : RtW t σ H (fun v' _ => v' = v) := fun H1 e D q => h H1 e D fun H2 e2 => q v H2 e2 rfl
theorem rt_for {wi : TI} {items : Nat → V} {n : Nat} {g : TG} (k : Nat) (s : Nat → L2.St) (h : EvI wi (s 0) H items n) (hk : k < n) (hs : ∀ i, i < k → GNx g u (items i) (s i) H (s (i + 1))) (hr : GRtW g u (items k) (s k) H (fun v' _ => v' = v)) : Rt (tFor wi g u) (s 0) H v :=
  (rtw_for k s h hk hs hr).toV
theorem nx_while (m : Nat) (s : Nat → L2.St) (hs : ∀ i, i < m → EvT c (s i) H true ∧ Nx u (s i) H (s (i + 1))) (hd : EvT c (s m) H false) : Nx (tWhile c u) (s 0) H (s m) := fun H1 e D q =>
  ⟨fun k σ H2 => ∃ i, i ≤ m ∧ k = m - i ∧ σ = s i ∧ Ex H1 H2, ⟨m, 0, Nat.zero_le _, rfl, rfl, Ex.refl _⟩, fun k σ H2 ⟨i, hi, hk, hσ, e2⟩ => by
    subst hk hσ
    by_cases hlt : i < m
    · obtain ⟨h1, h2⟩ := hs i hlt
      refine h1 H2 (e.trans e2) _ fun H3 e3 => ?_
      refine ⟨fun σ' H' => σ' = s (i + 1) ∧ Ex H1 H', fun σ' H' p => ⟨m - (i + 1), by omega, i + 1, hlt, rfl, p.1, p.2⟩, ?_⟩
      exact h2 H3 ((e.trans e2).trans e3) _ fun H4 e4 => ⟨rfl, (e2.trans e3).trans e4⟩
    · obtain rfl : i = m := by omega
      refine hd H2 (e.trans e2) _ fun H3 e3 => ?_
      exact q H3 (e2.trans e3)⟩
/-! tuples as targets, items of displays -/
theorem gnx_tup2 {i j : Nat} {a : Addr} {y : V} (h : SqT K H a [x, y]) (k : Nx u ((σ.set i (some x)).set j (some y)) H σ') : GNx (gTup K 2 (gCons (gName i) (gCons (gName j) gNil))) u (.ref a) σ H σ' := fun H1 e D q =>
  ⟨a, [x, y], rfl, ex_t e h, rfl, x, [y], rfl, y, [], rfl, rfl, k H1 e D q⟩
/-- (..)[i], [..][i] of a display -/
theorem ev_ixNL {xs : List V} {i : Int} (ha : EvL ta σ H xs) (hb : Ev tb σ H (.int i)) (hv : atI xs i = some v) : Ev (tOp (rIxL K) ta tb) σ H v := fun H1 e Q q =>
  ha H1 e _ fun p H2 _ e2 hp => hb H2 (e.trans e2) _ fun H3 e3 => ⟨p, xs, i, v, rfl, rfl, sq_of (e3 p _ hp), hv, q H3 (e2.trans e3)⟩
theorem ev_ixL {p : Addr} {xs : List V} {i : Int} (ha : Ev ta σ H (.ref p)) (hb : Ev tb σ H (.int i)) (hx : SqL K H p xs) (hv : atI xs i = some v) : Ev (tOp (rIxL K) ta tb) σ H v := ev_op ha hb (rv_ixL hx hv)
theorem ev_ixT {p : Addr} {xs : List V} {i : Int} (ha : Ev ta σ H (.ref p)) (hb : Ev tb σ H (.int i)) (hx : SqT K H p xs) (hv : atI xs i = some v) : Ev (tOp (rIxT K) ta tb) σ H v := ev_op ha hb (rv_ixT hx hv)
/-- is None, is not None -/
theorem ev_isN (ha : Ev ta σ H x) : Ev (tIsN ta) σ H (.bl (decide (x = .non))) := fun H1 e Q q => ha H1 e _ fun H2 e2 => q H2 e2
theorem ev_notN (ha : Ev ta σ H x) : Ev (tNotN ta) σ H (.bl (!decide (x = .non))) := fun H1 e Q q => ha H1 e _ fun H2 e2 => q H2 e2
/-- a < b < c -/
theorem ev_chain {tc : TE} {r' : R2} {w : V} {b1 b2 : Bool} (ha : Ev ta σ H x) (hb : Ev tb σ H y) (hr : RV r x y H (.bl b1)) (hc : b1 = true → Ev tc σ H w) (hr' : b1 = true → RV r' y w H (.bl b2)) : Ev (tChain r r' ta tb tc) σ H (.bl (b1 && b2)) := fun H1 e Q q =>
  ha H1 e _ fun H2 e2 => hb H2 (e.trans e2) _ fun H3 e3 => hr H3 ((e.trans e2).trans e3) _ fun H4 e4 => ⟨b1, rfl, by
    cases b1 with
    | true =>
      show tc σ H4 fun w' H5 => r' y w' H5 Q
      exact hc rfl H4 (((e.trans e2).trans e3).trans e4) _ fun H5 e5 => hr' rfl H5 ((((e.trans e2).trans e3).trans e4).trans e5) Q fun H6 e6 => q H6 ((((e2.trans e3).trans e4).trans e5).trans e6)
    | false =>
      show Q (.bl false) H4
      exact q H4 ((e2.trans e3).trans e4)⟩
/-- calls of built-ins by values -/
theorem ev_max {i j : Int} (ha : Ev ta σ H (.int i)) (hb : Ev tb σ H (.int j)) : Ev (tCB (fun xs H Q => ∃ i j, xs = [.int i, .int j] ∧ Q (.int (if j > i then j else i)) H) (tCons ta (tCons tb tNil))) σ H (.int (max i j)) := fun H1 e Q q =>
  ha H1 e _ fun H2 e2 => hb H2 (e.trans e2) _ fun H3 e3 => ⟨i, j, rfl, by
    have z : (if j > i then j else i) = max i j := by
      by_cases h : j > i
      · rw [if_pos h]; omega
      · rw [if_neg h]; omega
    rw [z]
    exact q H3 (e2.trans e3)⟩
theorem ev_min {i j : Int} (ha : Ev ta σ H (.int i)) (hb : Ev tb σ H (.int j)) : Ev (tCB (fun xs H Q => ∃ i j, xs = [.int i, .int j] ∧ Q (.int (if j < i then j else i)) H) (tCons ta (tCons tb tNil))) σ H (.int (min i j)) := fun H1 e Q q =>
  ha H1 e _ fun H2 e2 => hb H2 (e.trans e2) _ fun H3 e3 => ⟨i, j, rfl, by
    have z : (if j < i then j else i) = min i j := by
      by_cases h : j < i
      · rw [if_pos h]; omega
      · rw [if_neg h]; omega
    rw [z]
    exact q H3 (e2.trans e3)⟩
theorem ev_intB {k : Bool} (ha : Ev ta σ H (.bl k)) : Ev (tCB (fun xs H Q => (∃ i, xs = [.int i] ∧ Q (.int i) H) ∨ ∃ k, xs = [.bl k] ∧ Q (.int (if k then 1 else 0)) H) (tCons ta tNil)) σ H (.int (if k then 1 else 0)) := fun H1 e Q q =>
  ha H1 e _ fun H2 e2 => .inr ⟨k, rfl, q H2 e2⟩
theorem ev_lenL {p : Addr} {xs : List V} (ha : Ev ta σ H (.ref p)) (hx : SqL K H p xs) : Ev (tCB (fun xs H Q => ∃ p ys, xs = [.ref p] ∧ (SqL K H p ys ∨ SqT K H p ys) ∧ Q (.int ys.length) H) (tCons ta tNil)) σ H (.int (xs.length : Int)) := fun H1 e Q q =>
  ha H1 e _ fun H2 e2 => ⟨p, xs, rfl, .inl (ex_l (e.trans e2) hx), q H2 e2⟩
theorem ev_lenI {p : Addr} {ns : List Int} (ha : Ev ta σ H (.ref p)) (hx : SqL K H p (ns.map V.int)) : Ev (tCB (fun xs H Q => ∃ p ys, xs = [.ref p] ∧ (SqL K H p ys ∨ SqT K H p ys) ∧ Q (.int ys.length) H) (tCons ta tNil)) σ H (.int (ns.length : Int)) := by
  have h := ev_lenL (K := K) ha hx
  rw [List.length_map] at h
  exact h
/-- a display's item -/
theorem ev_ixN {tv : TA} {vs : List V} {i : Int} (ha : EvA tv σ H vs) (hb : Ev tb σ H (.int i)) (hl : vs.length ≤ 100000) (hv : atI vs i = some v) : Ev (tOp (rIxL K) (tLst tv) tb) σ H v := ev_ixNL (el_lst ha hl) hb hv
/-- isinstance -/
theorem ev_isi {te2 : TE} {cv : V} {tv uv : Value} {k : Bool} (ha : Ev ta σ H x) (hb : Ev te2 σ H cv) (hc : ClsV cv uv) (ht : ∀ H1, Ex H H1 → TyX K H1 x tv) (hk : PySem.W.kitOne K tv uv = some k) : Ev (tCB (rIsi K) (tCons ta (tCons te2 tNil))) σ H (.bl k) := fun H1 e Q q =>
  ha H1 e _ fun H2 e2 => hb H2 (e.trans e2) _ fun H3 e3 => ⟨x, cv, tv, uv, k, rfl, hc, ht H3 ((e.trans e2).trans e3), hk, q H3 (e2.trans e3)⟩
/-- data compared -/
theorem rv_eqD {d f : PySem.PyData} (hd : ∀ H1, Ex H H1 → Dp K H1 x d) (hf : ∀ H1, Ex H H1 → Dp K H1 y f) (sd : PySem.SeqAt.shaped d = true) (sf : PySem.SeqAt.shaped f = true) : RV (rEqD K) x y H (.bl (PySem.PyData.eqv d f)) := fun H1 e Q q => ⟨d, f, hd H1 e, hf H1 e, sd, sf, q H1 (Ex.refl _)⟩
theorem rv_neD {d f : PySem.PyData} (hd : ∀ H1, Ex H H1 → Dp K H1 x d) (hf : ∀ H1, Ex H H1 → Dp K H1 y f) (sd : PySem.SeqAt.shaped d = true) (sf : PySem.SeqAt.shaped f = true) : RV (rNeD K) x y H (.bl (!PySem.PyData.eqv d f)) := fun H1 e Q q => ⟨d, f, hd H1 e, hf H1 e, sd, sf, q H1 (Ex.refl _)⟩
/-! promises of defs that hand back a value and change nothing: R arguments heap value -/
def spF (R : List V → Hp → V → Prop) : Sp := fun vs H Q _ => ∃ v, (∀ H1, Ex H H1 → R vs H1 v) ∧ RetV v H Q
theorem ev_callF {R : List V → Hp → V → Prop} {ta : TA} {vs : List V} {E : XK} (h : EvA ta σ H vs) (hR : ∀ H1, Ex H H1 → R vs H1 v) : Ev (tCall (spF R) [] E ta) σ H v := fun H1 e Q q =>
  h H1 e _ fun H2 e2 => by
    rw [List.append_nil]
    exact ⟨v, fun H3 e3 => hR H3 ((e.trans e2).trans e3), fun H3 e3 => q H3 (e2.trans e3)⟩
/-- .. a value by what is true of it -/
def spW (R : List V → Hp → (V → Hp → Prop) → Prop) : Sp := fun vs H Q _ => ∃ W : V → Hp → Prop, (∀ H1, Ex H H1 → R vs H1 W) ∧ ∀ v H2, Ex H H2 → W v H2 → Q v H2
theorem evw_callW {R : List V → Hp → (V → Hp → Prop) → Prop} {ta : TA} {vs : List V} {E : XK} (h : EvA ta σ H vs) (hR : ∀ H1, Ex H H1 → R vs H1 W) : EvW (tCall (spW R) [] E ta) σ H W := fun H1 e Q q =>
  h H1 e _ fun H2 e2 => by
    rw [List.append_nil]
    exact ⟨W, fun H3 e3 => hR H3 ((e.trans e2).trans e3), fun v H3 e3 w => q v H3 (e2.trans e3) w⟩
theorem evw_tup {vs : List V} (h : EvU te σ H vs) : EvW te σ H (fun v H1 => ∃ p, v = .ref p ∧ H1 p = some (.tup vs)) := fun H1 e Q q => h H1 e _ fun p H2 _ e2 hp => q _ H2 e2 ⟨p, rfl, hp⟩
theorem evw_v (h : Ev te σ H v) (hw : ∀ H1, Ex H H1 → W v H1) : EvW te σ H W := fun H1 e Q q => h H1 e _ fun H2 e2 => q v H2 e2 (hw H2 (e.trans e2))
end
section
open C8 (Def Fun Cal Met Mak)
variable {P : Program} {w : World} {K : PySem.W.Frag} {mg : Str → Option Value} {base : Heap}
/-- a def that hands back a value, by its body -/
theorem calF {x : Str} {st : Stmt} {f : Addr} {fd : FuncData} {N ps : List Str} {k : Nat} {R : List V → Hp → V → Prop} (F : C8.Def K mg x st f fd) (b : Binds K fd ps []) (S : FnScope N ps (C8.fnScope st)) (len : ∀ vs H v, R vs H v → vs.length = ps.length)
    (hbody : ∀ (cdv : Value) (A : Around) (outer : List Env) (s : Shared) (H : Hp) (vs : List V) (v : V) (E : XK), Room k (A.deeper (envOfC x (C8.fnScope st) s.heap.objs.size f cdv)) → R vs H v →
      ∃ t, PSs (cxOf C8.CX0 P w K mg base N x (C8.fnScope st) f cdv A outer s H E).nox (C8.fnBody st) t ∧ Rt t (start N vs) H v) : C8.Cal P w K mg base (k + 1) x (spF R) [] :=
  C8.cal0 F b .nil S (fun vs H Q E ⟨v, h, _⟩ => len vs H v (h H (Ex.refl H))) fun cdv A outer s H vs Q E hr ⟨v, h, k⟩ => by
    obtain ⟨t, h1, h2⟩ := hbody cdv A outer s H vs v E hr (h H (Ex.refl H))
    exact ⟨t, h1, h2.fin k⟩
theorem calW {x : Str} {st : Stmt} {f : Addr} {fd : FuncData} {N ps : List Str} {k : Nat} {R : List V → Hp → (V → Hp → Prop) → Prop} (F : C8.Def K mg x st f fd) (b : Binds K fd ps []) (S : FnScope N ps (C8.fnScope st)) (len : ∀ vs H v, R vs H v → vs.length = ps.length)
    (hbody : ∀ (cdv : Value) (A : Around) (outer : List Env) (s : Shared) (H : Hp) (vs : List V) (W : V → Hp → Prop) (E : XK), Room k (A.deeper (envOfC x (C8.fnScope st) s.heap.objs.size f cdv)) → R vs H W →
      ∃ t, PSs (cxOf C8.CX0 P w K mg base N x (C8.fnScope st) f cdv A outer s H E).nox (C8.fnBody st) t ∧ RtW t (start N vs) H W) : C8.Cal P w K mg base (k + 1) x (spW R) [] :=
  C8.cal0 F b .nil S (fun vs H Q E ⟨W, h, _⟩ => len vs H W (h H (Ex.refl H))) fun cdv A outer s H vs Q E hr ⟨W, h, k⟩ => by
    obtain ⟨t, h1, h2⟩ := hbody cdv A outer s H vs W E hr (h H (Ex.refl H))
    exact ⟨t, h1, h2.fin k⟩
theorem metF {m qual : Str} {C : Addr} {st : Stmt} {f : Addr} {fd : FuncData} {N ps : List Str} {k : Nat} {R : List V → Hp → V → Prop} (c : Cls K C) (me : Meth K C m f) (F : C8.Fun K m qual st f fd) (b : Binds K fd ps []) (S : FnScope N ps (C8.fnScope st)) (len : ∀ vs H v, R vs H v → vs.length = ps.length)
    (hbody : ∀ (cdv : Value) (A : Around) (outer : List Env) (s : Shared) (H : Hp) (vs : List V) (v : V) (E : XK), Room k (A.deeper (envOfC qual (C8.fnScope st) s.heap.objs.size f cdv)) → R vs H v →
      ∃ t, PSs (cxOf C8.CX0 P w K mg base N qual (C8.fnScope st) f cdv A outer s H E).nox (C8.fnBody st) t ∧ Rt t (start N vs) H v) : C8.Met P w K mg base (k + 1) C m (spF R) [] :=
  C8.met0 c me F b S (fun vs H Q E ⟨v, h, _⟩ => len vs H v (h H (Ex.refl H))) fun cdv A outer s H vs Q E hr ⟨v, h, k⟩ => by
    obtain ⟨t, h1, h2⟩ := hbody cdv A outer s H vs v E hr (h H (Ex.refl H))
    exact ⟨t, h1, h2.fin k⟩
theorem metW {m qual : Str} {C : Addr} {st : Stmt} {f : Addr} {fd : FuncData} {N ps : List Str} {k : Nat} {R : List V → Hp → (V → Hp → Prop) → Prop} (c : Cls K C) (me : Meth K C m f) (F : C8.Fun K m qual st f fd) (b : Binds K fd ps []) (S : FnScope N ps (C8.fnScope st)) (len : ∀ vs H v, R vs H v → vs.length = ps.length)
    (hbody : ∀ (cdv : Value) (A : Around) (outer : List Env) (s : Shared) (H : Hp) (vs : List V) (W : V → Hp → Prop) (E : XK), Room k (A.deeper (envOfC qual (C8.fnScope st) s.heap.objs.size f cdv)) → R vs H W →
      ∃ t, PSs (cxOf C8.CX0 P w K mg base N qual (C8.fnScope st) f cdv A outer s H E).nox (C8.fnBody st) t ∧ RtW t (start N vs) H W) : C8.Met P w K mg base (k + 1) C m (spW R) [] :=
  C8.met0 c me F b S (fun vs H Q E ⟨W, h, _⟩ => len vs H W (h H (Ex.refl H))) fun cdv A outer s H vs Q E hr ⟨W, h, k⟩ => by
    obtain ⟨t, h1, h2⟩ := hbody cdv A outer s H vs W E hr (h H (Ex.refl H))
    exact ⟨t, h1, h2.fin k⟩
end
end Tk
namespace Tk
open PySem PySem.Spec PyProof.Rows L2 Evl
/-! del xs[:k], 0 ≤ k -/
def cutSel (c : Int) (i : Nat) : Bool := if (1 : Int) > 0 then (0 : Int) ≤ i && (i : Int) < c && ((i : Int) - 0) % 1 == 0 else c < i && (i : Int) ≤ 0 && ((0 : Int) - i) % (-1) == 0
theorem cutSel_eq (c i : Nat) : cutSel (c : Int) i = decide (i < c) := by
  unfold cutSel
  rw [if_pos (by decide)]
  have h1 : decide ((0 : Int) ≤ (i : Int)) = true := decide_eq_true (by omega)
  have h2 : (((i : Int) - 0) % 1 == 0) = true := by
    rw [Int.emod_one]
    rfl
  rw [h1, h2, Bool.true_and, Bool.and_true]
  congr 1
  exact propext (by omega)
theorem cut_from : ∀ (l : List Value) (c j : Nat), (l.zipIdx j).filterMap (fun p => if cutSel (c : Int) p.2 = true then none else some p.1) = l.drop (c - j)
  | [], c, j => by simp
  | x :: l, c, j => by
    rw [List.zipIdx_cons, List.filterMap_cons]
    have ih := cut_from l c (j + 1)
    simp only [cutSel_eq, decide_eq_true_eq] at ih ⊢
    by_cases h : j < c
    · rw [if_pos h]
      rw [ih, show c - j = (c - (j + 1)) + 1 by omega, List.drop_succ_cons]
    · rw [if_neg h]
      rw [ih, show c - (j + 1) = 0 by omega, show c - j = 0 by omega]
      rfl
theorem cut_all (l : List Value) (c : Nat) : (l.zipIdx.filterMap fun p => if cutSel (c : Int) p.2 = true then none else some p.1) = l.drop c := cut_from l c 0
section
variable {prog : Program} {w : World} {A : Around} {E : Value → Shared → Prop} {s : Shared}
theorem bounds_to {c n : Nat} (hc : c ≤ n) : sliceBounds none (some (c : Int)) none n = ((0 : Int), (c : Int), 1) := by
  simp only [sliceBounds, Option.getD_none]
  have b1 : ¬ ((c : Int) < 0) := by omega
  simp only [b1, if_false, show (1 : Int) > 0 by decide, if_true]
  congr 1
  congr 1
  omega
theorem cutGo {l sl : Addr} {its : List Value} {n : Nat} {vu : Value} {c : Nat} {Q : Unit → Shared → Prop} {os : Obj} (q1 : s.heap.get? sl = some os) (q3 : os.data = .fields #[.none, vu, .none]) (pu : IsPart vu (some (c : Int)))
    (e : s.heap.get? l = some { cls := .type "list", data := .seq its.toArray n }) (hc : c ≤ its.length) (hz : its.length ≤ sizeLine) (nstep : ¬ ((rawPart none == rawInt 0) = true))
    (h : ∀ f : Array Value → Array Value, f its.toArray = (its.drop c).toArray → Q () { s with heap := s.heap.update l (Obj.mapSeq f) }) {R : Value × Value × Value → Shared → Prop}
    (hR : R (rawPart none, rawPart (some (c : Int)), rawPart none) s) :
    wpAny (model prog w) A (if (rawPart none == rawInt 0) = true then (do rule "list.slice.step-zero"; let __r ← raiseErrorWords "ValueError" "slice step cannot be zero"; (fun _ : PUnit => do let first ← listPart (← field (.ref sl) 0); let last ← listPart (← field (.ref sl) 1); pure (first, last, rawPart none)) __r) else (do let first ← listPart (← field (.ref sl) 0); let last ← listPart (← field (.ref sl) 1); pure (first, last, rawPart none))) R E s := by
  rw [if_neg nstep]
  exact wpAny_bind (wpAny_field q1 q3 (x := .none) rfl (wpAny_bind (wpAny_listPart .none (wpAny_bind (wpAny_field q1 q3 (x := vu) rfl (wpAny_bind (wpAny_listPart pu (wpAny_pure hR))))))))
theorem cutEnd {l : Addr} {its : List Value} {n : Nat} {c : Nat} {Q : Unit → Shared → Prop} (e : s.heap.get? l = some { cls := .type "list", data := .seq its.toArray n }) (hc : c ≤ its.length) (hz : its.length ≤ sizeLine)
    (h : ∀ f : Array Value → Array Value, f its.toArray = (its.drop c).toArray → Q () { s with heap := s.heap.update l (Obj.mapSeq f) }) :
    wpAny (model prog w) A (do
      let old ← Builtin.List.listItems (.ref l)
      let x ← sliceIndices (rawPart none) (rawPart (some (c : Int))) (rawPart none) old.size
      rule "list.__delitem__.slice"
      Builtin.List.listUpdate (.ref l) fun xs => (xs.toList.zipIdx.filterMap fun p => if (if x.2.2 > 0 then x.1 ≤ p.2 && p.2 < x.2.1 && (p.2 - x.1) % x.2.2 == 0 else x.2.1 < p.2 && p.2 ≤ x.1 && (x.1 - p.2) % (-x.2.2) == 0 : Bool) = true then none else some p.1).toArray
      letGo (if (x.2.2 == 1) = true then (old.toList.zipIdx.filterMap fun p => if (if x.2.2 > 0 then x.1 ≤ p.2 && p.2 < x.2.1 && (p.2 - x.1) % x.2.2 == 0 else x.2.1 < p.2 && p.2 ≤ x.1 && (x.1 - p.2) % (-x.2.2) == 0 : Bool) = true then some p.1 else none).reverse
        else old.toList.zipIdx.filterMap fun p => if (if x.2.2 > 0 then x.1 ≤ p.2 && p.2 < x.2.1 && (p.2 - x.1) % x.2.2 == 0 else x.2.1 < p.2 && p.2 ≤ x.1 && (x.1 - p.2) % (-x.2.2) == 0 : Bool) = true then some p.1 else none)
      ret .none) (fun fin s' => ∃ v, fin = PySem.Fin.done (Flow.ret v) ∧ Q () s') E s := by
  unfold Builtin.List.listItems
  refine wpAny_bind (wpAny_bind (wpAny_seqItems e rfl (wpAny_pure ?_)))
  refine wpAny_bind (wpAny_of_eq ((sliceIndices_raw none (some (c : Int)) none its.toArray.size (by simp)).trans (congrArg (pure : Int × Int × Int → Sem (Int × Int × Int)) (bounds_to (by rw [List.size_toArray]; exact hc)))) ?_)
  refine wpAny_bind (wpAny_rule ?_)
  dsimp only
  have key : ((its.zipIdx.filterMap fun p => if (if (1 : Int) > 0 then (0 : Int) ≤ p.2 && (p.2 : Int) < (c : Int) && ((p.2 : Int) - 0) % 1 == 0 else (c : Int) < p.2 && (p.2 : Int) ≤ 0 && ((0 : Int) - p.2) % -1 == 0 : Bool) = true then none else some p.1).toArray) = (its.drop c).toArray := congrArg List.toArray (cut_all its c)
  refine wpAny_bind (m := updateSeq l _) (wpAny_updateSeq (hz := by rw [List.size_toArray]; exact hz) (_hz' := ?hz2) e rfl ?_)
  case hz2 =>
    refine Nat.le_trans (Nat.le_of_eq (congrArg Array.size key)) ?_
    rw [List.size_toArray, List.length_drop]
    omega
  refine wpAny_bind (wpAny_letGo ?_)
  exact wpAny_pure ⟨.none, rfl, h _ key⟩
theorem delItem_to {l sl : Addr} {its : List Value} {n : Nat} {vu : Value} {c : Nat} {Q : Unit → Shared → Prop} (e : s.heap.get? l = some { cls := .type "list", data := .seq its.toArray n }) (hs : s.heap.IsSliceOf sl .none vu .none) (pu : IsPart vu (some (c : Int))) (hc : c ≤ its.length) (hz : its.length ≤ sizeLine)
    (h : ∀ f : Array Value → Array Value, f its.toArray = (its.drop c).toArray → Q () { s with heap := s.heap.update l (Obj.mapSeq f) }) : wpAny (model prog w) A (delItem (.ref l) (.ref sl)) Q E s := by
  obtain ⟨os, q1, q2, q3⟩ := id hs
  have tS : s.TypeIs (.ref sl) "slice" := ⟨os, q1, q2⟩
  have tL : s.TypeIs (.ref l) "list" := ⟨_, e, rfl⟩
  refine wpAny_delItem_slot (T := "list") tL (by decide) F.slot_list_delitem (wpAny_call_entry F.slot_list_delitem tL F.entry_list_delitem ?_ (F.args_list_delitem_2 _ _))
  have nstep : ¬ ((rawPart none == rawInt 0) = true) := Bool.false_ne_true
  show wpAny _ _ (Builtin.List.listSubscript? (.ref sl) >>= _) _ _ s
  unfold Builtin.List.listSubscript?
  refine wpAny_bind (wpAny_bind (wpAny_specialOf tS slice_no_index (by simp only [Option.isNone_none, if_true]; refine wpAny_pure ?_; show wpAny _ _ (typeOf (.ref sl) >>= _) _ _ s; refine wpAny_bind (wpAny_typeOf tS ?_); rw [if_neg (by decide), listSliceParts_eq]; refine wpAny_bind (wpAny_bind (wpAny_field q1 q3 (x := .none) rfl (wpAny_bind (wpAny_listPart .none ?_)))); refine cutGo q1 q3 pu e hc hz nstep h ?_; exact cutEnd e hc hz h)))
end
section
variable {X : Cx}
def tDelTo (to te : TE) : TS := fun D σ H => to σ H fun x H1 => tPart te σ H1 fun o H2 => ∃ (l : Addr) (xs : List V) (c : Nat), x = .ref l ∧ o = some (c : Int) ∧ H2 l = some (.lst xs) ∧ c ≤ xs.length ∧ D.nx σ (upd H2 l (.lst (xs.drop c)))
theorem ps_delTo {o e : Expr} {to te : TE} {tpos p2 pos : Pos} (ho : PE X o to) (he : PE X e te) : PS X (.Delete [.Subscript o (.Slice none (some e) none p2) tpos] pos) (tDelTo to te) := by
  refine ⟨fun pins s σ H D I h => ?_⟩
  refine wpAny_Delete (wpAny_deleteEach_cons (wpAny_delete_Subscript (thn (ho.run pins s σ H _ I h) fun u s1 ⟨x, H1, I1, rx, q1⟩ => ?_)))
  refine wpAny_Slice ?_
  rw [evalPart_none]
  refine wpAny_pure (thn ((po_some he).run pins s1 σ H1 _ I1 q1) fun vu s2 ⟨o, H2, I2, pu, l, xs, c, ex, eo, hl, hc, q2⟩ => wpAny_pure ?_)
  subst ex eo
  cases (show u = Value.ref l from rx)
  have I3 : Inv X pins σ H2 { s2 with heap := s2.heap.push { cls := .type "slice", data := .fields #[.none, vu, .none] } } := I2.kept (t' := s2.toks) fun b ob q => Heap.get?_push_of_some _ q
  obtain ⟨z, its, n, r, len, e3⟩ := I3.lstM hl
  refine delItem_to e3 (Heap.IsSliceOf.new ..) pu (by omega) (by omega) fun f hf => wpAny_deleteEach_nil ⟨σ, _, I3.lset (t' := s2.toks) hl e3 hf (r.drop c) ?_, q2⟩
  rw [List.length_drop]
  omega
end
end Tk
namespace Tk
open PySem PySem.Spec PyProof.Rows L2 Evl
section
variable {σ σ' σ'' : L2.St} {H H' : Hp} {v x y z : V} {te ta tb : TE} {t u tw tz : TS} {c c2 : TT} {b : Bool} {W : V → Hp → Prop} {K : PySem.W.Frag} {r : R2} {a C dx : Addr} {fs : List (Str × V)} {f m : Str}
theorem ev_fld (ha : Ev ta σ H (.ref a)) (hx : H a = some (.ins C dx fs)) (hc : Cls K C) (hn : NoAttr K C f) (hl : fs.lookup f = some v) : Ev (tFld K ta f) σ H v := fun H1 e Q q =>
  ha H1 e _ fun H2 e2 => ⟨a, C, dx, fs, v, rfl, (e.trans e2) a _ hx, hc, hn, hl, q H2 e2⟩
theorem ev_methF {R : List V → Hp → V → Prop} {tA : TA} {vs : List V} {E : XK} (ha : Ev ta σ H (.ref a)) (hx : H a = some (.ins C dx fs)) (hm : fs.lookup m = none) (h : EvA tA σ H vs) (hR : ∀ H1, Ex H H1 → R (.ref a :: vs) H1 v) : Ev (tMeth C m (spF R) [] E ta tA) σ H v := fun H1 e Q q =>
  ha H1 e _ fun H2 e2 => ⟨a, dx, fs, rfl, (e.trans e2) a _ hx, hm, h H2 (e.trans e2) _ fun H3 e3 => by
    rw [List.append_nil]
    exact ⟨v, fun H4 e4 => hR H4 (((e.trans e2).trans e3).trans e4), fun H4 e4 => q H4 ((e2.trans e3).trans e4)⟩⟩
theorem evw_methW {R : List V → Hp → (V → Hp → Prop) → Prop} {tA : TA} {vs : List V} {E : XK} (ha : Ev ta σ H (.ref a)) (hx : H a = some (.ins C dx fs)) (hm : fs.lookup m = none) (h : EvA tA σ H vs) (hR : ∀ H1, Ex H H1 → R (.ref a :: vs) H1 W) : EvW (tMeth C m (spW R) [] E ta tA) σ H W := fun H1 e Q q =>
  ha H1 e _ fun H2 e2 => ⟨a, dx, fs, rfl, (e.trans e2) a _ hx, hm, h H2 (e.trans e2) _ fun H3 e3 => by
    rw [List.append_nil]
    exact ⟨W, fun H4 e4 => hR H4 (((e.trans e2).trans e3).trans e4), fun v H4 e4 w => q v H4 ((e2.trans e3).trans e4) w⟩⟩
/-- what an __init__ promises: of these arguments, at a new instance -/
def spI (C : Addr) (Dm : List V → Prop) (J : List V → Addr → Addr → Hp → Prop) : Sp := fun vs H Q _ => ∃ (x dx : Addr) (as : List V), vs = .ref x :: as ∧ H x = some (.ins C dx []) ∧ Dm as ∧ ∀ H2, (∀ b o, b ≠ x → H b = some o → H2 b = some o) → J as x dx H2 → Q .non H2
theorem evw_make {Dm : List V → Prop} {J : List V → Addr → Addr → Hp → Prop} {tA : TA} {vs : List V} {E : XK} (h : EvA tA σ H vs) (hd : Dm vs) : EvW (tMake C (spI C Dm J) [] E tA) σ H (fun v H2 => ∃ x dx, v = .ref x ∧ J vs x dx H2) := fun H1 e Q q =>
  h H1 e _ fun H2 e2 => fun x dx nx nd ne => by
    rw [List.append_nil]
    refine ⟨x, dx, vs, rfl, upd_same, hd, fun H3 k w => ⟨rfl, q _ H3 (e2.trans fun b o hb => ?_) ⟨x, dx, rfl, w⟩⟩⟩
    have n1 : b ≠ x := ne_of_none hb nx
    refine k b o n1 ?_
    rw [upd_ne n1, upd_ne (ne_of_none hb nd)]
    exact hb
/-! blocks by what holds of the slots behind -/
def NxP (t : TS) (σ : L2.St) (H : Hp) (P : L2.St → Prop) : Prop := ∀ H1, Ex H H1 → ∀ D : Ends, (∀ σ' H2, Ex H1 H2 → P σ' → D.nx σ' H2) → t D σ H1
theorem nxp_of {P : L2.St → Prop} (h : Nx t σ H σ') (p : P σ') : NxP t σ H P := fun H1 e D q => h H1 e D fun H2 e2 => q σ' H2 e2 p
theorem NxP.imp {P P' : L2.St → Prop} (h : NxP t σ H P) (k : ∀ s, P s → P' s) : NxP t σ H P' := fun H1 e D q => h H1 e D fun s H2 e2 p => q s H2 e2 (k s p)
theorem rt_seqP {P : L2.St → Prop} (h : NxP t σ H P) (k : ∀ σ', P σ' → Rt u σ' H v) : Rt (tSeq t u) σ H v := fun H1 e D q => h H1 e { D with nx := u D } fun σ' H2 e2 p => k σ' p H2 (e.trans e2) D fun H3 e3 => q H3 (e2.trans e3)
theorem rtw_seqP {P : L2.St → Prop} (h : NxP t σ H P) (k : ∀ σ', P σ' → RtW u σ' H W) : RtW (tSeq t u) σ H W := fun H1 e D q => h H1 e { D with nx := u D } fun σ' H2 e2 p => k σ' p H2 (e.trans e2) D fun v H3 e3 w => q v H3 (e2.trans e3) w
theorem nxp_seqP {P P' : L2.St → Prop} (h : NxP t σ H P) (k : ∀ σ', P σ' → NxP u σ' H P') : NxP (tSeq t u) σ H P' := fun H1 e D q => h H1 e { D with nx := u D } fun σ' H2 e2 p => k σ' p H2 (e.trans e2) D fun s H3 e3 w => q s H3 (e2.trans e3) w
theorem nxp_if {P : L2.St → Prop} (h : EvT c σ H b) (h1 : b = true → NxP t σ H P) (h2 : b = false → NxP u σ H P) : NxP (tIfS c t u) σ H P := fun H1 e D q => h H1 e _ fun H2 e2 => by
  cases b with
  | true =>
    show t D σ H2
    exact h1 rfl H2 (e.trans e2) D fun s H3 e3 => q s H3 (e2.trans e3)
  | false =>
    show u D σ H2
    exact h2 rfl H2 (e.trans e2) D fun s H3 e3 => q s H3 (e2.trans e3)
theorem nxp_while {P : L2.St → Prop} (I : L2.St → Prop) (μ : L2.St → Nat) (h0 : I σ) (hs : ∀ s, I s → ∃ b, EvT c s H b ∧ (b = true → NxP u s H fun s' => I s' ∧ μ s' < μ s) ∧ (b = false → P s)) : NxP (tWhile c u) σ H P := fun H1 e D q =>
  ⟨fun k s H2 => k = μ s ∧ I s ∧ Ex H1 H2, ⟨_, rfl, h0, Ex.refl _⟩, fun k s H2 ⟨hk, hI, e2⟩ => by
    subst hk
    obtain ⟨b, hb, h1, h2⟩ := hs s hI
    refine hb H2 (e.trans e2) _ fun H3 e3 => ?_
    cases b with
    | true =>
      refine ⟨fun s' H' => (I s' ∧ μ s' < μ s) ∧ Ex H1 H', fun s' H' p => ⟨μ s', p.1.2, rfl, p.1.1, p.2⟩, ?_⟩
      exact h1 rfl H3 ((e.trans e2).trans e3) _ fun s' H4 e4 p => ⟨p, (e2.trans e3).trans e4⟩
    | false => exact q s H3 (e2.trans e3) (h2 rfl)⟩
/-! lists of pairs of numbers, tracked -/
def Prs (H : Hp) (ps : List Addr) (vs : List (Int × Int)) : Prop := Paired (fun (p : Addr) (q : Int × Int) => H p = some (.tup [.int q.1, .int q.2])) ps vs
def PairsT (H : Hp) (l : Addr) (vs : List (Int × Int)) : Prop := ∃ ps : List Addr, H l = some (.lst (ps.map V.ref)) ∧ Prs H ps vs
theorem Prs.mono {ps : List Addr} {vs : List (Int × Int)} (e : Ex H H') (h : Prs H ps vs) : Prs H' ps vs := by
  induction h with
  | nil => exact .nil
  | cons h1 _ ih => exact .cons (e _ _ h1) ih
theorem Prs.len {ps : List Addr} {vs : List (Int × Int)} (h : Prs H ps vs) : ps.length = vs.length := by
  induction h with
  | nil => rfl
  | cons _ _ ih => rw [List.length_cons, List.length_cons, ih]
theorem Prs.at {ps : List Addr} {vs : List (Int × Int)} (h : Prs H ps vs) {i : Nat} {q : Int × Int} (hq : vs[i]? = some q) : ∃ p, ps[i]? = some p ∧ H p = some (.tup [.int q.1, .int q.2]) := by
  induction h generalizing i with
  | nil => simp at hq
  | @cons p q' ps vs h1 _ ih =>
    cases i with
    | zero =>
      rw [List.getElem?_cons_zero] at hq
      cases hq
      exact ⟨p, rfl, h1⟩
    | succ i =>
      rw [List.getElem?_cons_succ] at hq
      obtain ⟨p', e1, e2⟩ := ih hq
      exact ⟨p', by rw [List.getElem?_cons_succ]; exact e1, e2⟩
theorem Prs.snoc {ps : List Addr} {vs : List (Int × Int)} {p : Addr} {q : Int × Int} (h : Prs H ps vs) (hp : H p = some (.tup [.int q.1, .int q.2])) : Prs H (ps ++ [p]) (vs ++ [q]) := by
  induction h with
  | nil => exact .cons hp .nil
  | cons h1 _ ih => exact .cons h1 ih
theorem Prs.drop {ps : List Addr} {vs : List (Int × Int)} (k : Nat) (h : Prs H ps vs) : Prs H (ps.drop k) (vs.drop k) := by
  induction h generalizing k with
  | nil =>
    rw [List.drop_nil, List.drop_nil]
    exact .nil
  | cons h1 h2 ih =>
    cases k with
    | zero => exact .cons h1 h2
    | succ k => exact ih k
theorem Prs.take {ps : List Addr} {vs : List (Int × Int)} (k : Nat) (h : Prs H ps vs) : Prs H (ps.take k) (vs.take k) := by
  induction h generalizing k with
  | nil =>
    rw [List.take_nil, List.take_nil]
    exact .nil
  | cons h1 h2 ih =>
    cases k with
    | zero => exact .nil
    | succ k => exact .cons h1 (ih k)
/-- a change elsewhere: at an object that is no tuple -/
theorem Prs.upd {ps : List Addr} {vs : List (Int × Int)} {l : Addr} {o : HO} (h : Prs H ps vs) (hl : ∀ xs, H l ≠ some (.tup xs)) : Prs (L2.upd H l o) ps vs := by
  induction h with
  | nil => exact .nil
  | cons h1 _ ih => exact .cons (by rw [upd_ne (fun z => hl _ (by rw [← z]; exact h1))]; exact h1) ih
theorem PairsT.mono {l : Addr} {vs : List (Int × Int)} (e : Ex H H') (h : PairsT H l vs) : PairsT H' l vs := by
  obtain ⟨ps, h1, h2⟩ := h
  exact ⟨ps, e _ _ h1, h2.mono e⟩
theorem PairsT.lst {l : Addr} {vs : List (Int × Int)} (h : PairsT H l vs) : ∃ xs : List V, SqL K H l xs ∧ xs.length = vs.length := by
  obtain ⟨ps, h1, h2⟩ := h
  exact ⟨_, sq_of h1, by rw [List.length_map]; exact h2.len⟩
theorem ev_lenP {l : Addr} {vs : List (Int × Int)} (ha : Ev ta σ H (.ref l)) (h : PairsT H l vs) : Ev (tCB (fun xs H Q => ∃ p ys, xs = [.ref p] ∧ (SqL K H p ys ∨ SqT K H p ys) ∧ Q (.int ys.length) H) (tCons ta tNil)) σ H (.int (vs.length : Int)) := by
  obtain ⟨xs, h1, h2⟩ := h.lst (K := K)
  rw [← h2]
  exact ev_lenL ha h1
/-- rows[i] -/
theorem ev_pair {l : Addr} {vs : List (Int × Int)} {i : Int} {q : Int × Int} (h : PairsT H l vs) (ha : Ev ta σ H (.ref l)) (hb : Ev tb σ H (.int i)) (h0 : 0 ≤ i) (hq : vs[i.toNat]? = some q) : ∃ p, H p = some (.tup [.int q.1, .int q.2]) ∧ Ev (tOp (rIxL K) ta tb) σ H (.ref p) := by
  obtain ⟨ps, h1, h2⟩ := h
  obtain ⟨p, e1, e2⟩ := h2.at hq
  refine ⟨p, e2, ev_ixL ha hb (sq_of h1) ?_⟩
  obtain ⟨j, rfl⟩ : ∃ j : Nat, i = (j : Int) := ⟨i.toNat, by omega⟩
  refine atI_nat ?_
  rw [List.getElem?_map]
  rw [Int.toNat_natCast] at e1
  rw [e1]
  rfl
theorem ev_pair0 {l : Addr} {vs : List (Int × Int)} {i : Int} {q : Int × Int} (ha : Ev ta σ H (.ref l)) (hb : Ev tb σ H (.int i)) (h : PairsT H l vs) (h0 : 0 ≤ i) (hq : vs[i.toNat]? = some q) : Ev (tOp (rIxT K) (tOp (rIxL K) ta tb) (tC (.int 0))) σ H (.int q.1) := by
  obtain ⟨p, h1, h2⟩ := ev_pair (K := K) h ha hb h0 hq
  exact ev_ixT h2 ev_c (st_of h1) rfl
theorem ev_pair1 {l : Addr} {vs : List (Int × Int)} {i : Int} {q : Int × Int} (ha : Ev ta σ H (.ref l)) (hb : Ev tb σ H (.int i)) (h : PairsT H l vs) (h0 : 0 ≤ i) (hq : vs[i.toNat]? = some q) : Ev (tOp (rIxT K) (tOp (rIxL K) ta tb) (tC (.int 1))) σ H (.int q.2) := by
  obtain ⟨p, h1, h2⟩ := ev_pair (K := K) h ha hb h0 hq
  exact ev_ixT h2 ev_c (st_of h1) rfl
/-! statements that change objects, told at the heap ahead -/
variable {D : Ends}
theorem Nx.go (h : Nx t σ H σ') (k : ∀ H2, Ex H H2 → u D σ' H2) : tSeq t u D σ H := h H (Ex.refl H) { D with nx := u D } k
theorem Rt.go (h : Rt t σ H v) (k : ∀ H2, Ex H H2 → D.rt v H2) : t D σ H := h H (Ex.refl H) D k
theorem s_fldst {y : V} {tv : TE} (hv : Ev tv σ H y) (ha : Ev ta σ H (.ref a)) (hx : H a = some (.ins C dx fs)) (hc : Cls K C) (hn : NoAttr K C f) (hl : fs.length < 1000) (k : ∀ H1, Ex H H1 → D.nx σ (upd H1 a (.ins C dx (putF f y fs)))) : sFld K ta tv f D σ H :=
  hv H (Ex.refl H) _ fun H1 e1 => ha H1 e1 _ fun H2 e2 => ⟨a, C, dx, fs, rfl, (e1.trans e2) _ _ hx, hc, hn, hl, k H2 (e1.trans e2)⟩
theorem s_fldaugst {i j : Int} {tv : TE} (ha : Ev ta σ H (.ref a)) (hx : H a = some (.ins C dx fs)) (hc : Cls K C) (hn : NoAttr K C f) (hl : fs.lookup f = some (.int i)) (hv : Ev tv σ H (.int j)) (hz : fs.length < 1000) (k : ∀ H1, Ex H H1 → D.nx σ (upd H1 a (.ins C dx (putF f (.int (i + j)) fs)))) : sFldAug K ta tv rAdd f D σ H :=
  ha H (Ex.refl H) _ fun H1 e1 => ⟨a, C, dx, fs, .int i, rfl, e1 _ _ hx, hc, hn, hl, hv H1 e1 _ fun H2 e2 => ⟨i, j, rfl, rfl, dx, fs, (e1.trans e2) _ _ hx, hz, k H2 (e1.trans e2)⟩⟩
/-! a loop whose turn goes on with a new state, or leaves -/
def runN {α : Type} (turn : Nat → α → Option α) : Nat → Nat → α → Option α
  | 0, _, st => some st
  | m + 1, i, st => match turn i st with
    | none => none
    | some st' => runN turn m (i + 1) st'
theorem runN_steps {α : Type} (turn : Nat → α → Option α) : ∀ (m i : Nat) (st : α),
    (∃ f : Nat → α, f 0 = st ∧ (∀ j, j < m → turn (i + j) (f j) = some (f (j + 1))) ∧ runN turn m i st = some (f m)) ∨
    (∃ (k : Nat) (f : Nat → α), k < m ∧ f 0 = st ∧ (∀ j, j < k → turn (i + j) (f j) = some (f (j + 1))) ∧ turn (i + k) (f k) = none ∧ runN turn m i st = none)
  | 0, i, st => .inl ⟨fun _ => st, rfl, fun _ h => absurd h (Nat.not_lt_zero _), rfl⟩
  | m + 1, i, st => by
    cases e : turn i st with
    | none =>
      refine .inr ⟨0, fun _ => st, Nat.succ_pos _, rfl, fun _ h => absurd h (Nat.not_lt_zero _), e, ?_⟩
      rw [runN, e]
    | some st' =>
      have er : runN turn (m + 1) i st = runN turn m (i + 1) st' := by rw [runN, e]
      have sh : ∀ j, i + 1 + j = i + (j + 1) := fun j => by omega
      rcases runN_steps turn m (i + 1) st' with ⟨f, h0, h1, h2⟩ | ⟨k, f, hk, h0, h1, h2, h3⟩
      · refine .inl ⟨fun j => match j with | 0 => st | j + 1 => f j, rfl, fun j hj => ?_, er.trans h2⟩
        cases j with
        | zero =>
          show turn i st = some (f 0)
          rw [e, h0]
        | succ j =>
          rw [← sh]
          exact h1 j (Nat.lt_of_succ_lt_succ hj)
      · refine .inr ⟨k + 1, fun j => match j with | 0 => st | j + 1 => f j, Nat.succ_lt_succ hk, rfl, fun j hj => ?_, by rw [← sh]; exact h2, er.trans h3⟩
        cases j with
        | zero =>
          show turn i st = some (f 0)
          rw [e, h0]
        | succ j =>
          rw [← sh]
          exact h1 j (Nat.lt_of_succ_lt_succ hj)
theorem rt_for_opt {α : Type} {wi : TI} {items : Nat → V} {n : Nat} {g : TG} {v0 : V} {st0 : α} (turn : Nat → α → Option α) (S : α → Nat → L2.St) (Iv : Nat → α → Prop) (i0 : Iv 0 st0) (hI : EvI wi (S st0 0) H items n)
    (hs : ∀ i st st', i < n → Iv i st → turn i st = some st' → GNx g u (items i) (S st i) H (S st' (i + 1)) ∧ Iv (i + 1) st') (hn : ∀ i st, i < n → Iv i st → turn i st = none → GRtW g u (items i) (S st i) H (fun v' _ => v' = v0))
    (hr : ∀ st, Iv n st → runN turn n 0 st0 = some st → Rt tz (S st n) H v) (h0 : runN turn n 0 st0 = none → v = v0) : Rt (tSeq (tFor wi g u) tz) (S st0 0) H v := by
  rcases runN_steps turn n 0 st0 with ⟨f, f0, f1, f2⟩ | ⟨k, f, hk, f0, f1, f2, f3⟩
  · have iv : ∀ j, j ≤ n → Iv j (f j) := fun j => by
      induction j with
      | zero => intro _; rw [f0]; exact i0
      | succ j ih => exact fun hj => (hs j (f j) (f (j + 1)) hj (ih (Nat.le_of_succ_le hj)) (by have := f1 j hj; rw [Nat.zero_add] at this; exact this)).2
    have hI' : EvI wi (S (f 0) 0) H items n := by rw [f0]; exact hI
    have z : Nx (tFor wi g u) (S (f 0) 0) H (S (f n) n) := nx_for (fun j => S (f j) j) hI' fun j hj => (hs j _ _ hj (iv j (Nat.le_of_lt hj)) (by have := f1 j hj; rw [Nat.zero_add] at this; exact this)).1
    rw [f0] at z
    exact rt_seq z (hr _ (iv n (Nat.le_refl n)) f2)
  · have iv : ∀ j, j ≤ k → Iv j (f j) := fun j => by
      induction j with
      | zero => intro _; rw [f0]; exact i0
      | succ j ih => exact fun hj => (hs j (f j) (f (j + 1)) (Nat.lt_trans hj hk) (ih (Nat.le_of_succ_le hj)) (by have := f1 j hj; rw [Nat.zero_add] at this; exact this)).2
    have hI' : EvI wi (S (f 0) 0) H items n := by rw [f0]; exact hI
    have z : Rt (tFor wi g u) (S (f 0) 0) H v0 := rt_for k (fun j => S (f j) j) hI' hk (fun j hj => (hs j _ _ (Nat.lt_trans hj hk) (iv j (Nat.le_of_lt hj)) (by have := f1 j hj; rw [Nat.zero_add] at this; exact this)).1) (hn k _ hk (iv k (Nat.le_refl k)) (by rw [Nat.zero_add] at f2; exact f2))
    rw [f0] at z
    rw [h0 f3]
    exact rt_now z
theorem Rt.at (h : Rt t σ' H v) (e : σ = σ') : Rt t σ H v := e ▸ h
theorem getD_some {vs : List (Int × Int)} {i : Nat} (h : i < vs.length) : vs[i]? = some (vs.getD i (0, 0)) := by
  rw [List.getD_eq_getElem?_getD, List.getElem?_eq_getElem h]
  rfl
end
section
variable {P : Program} {w : World} {K : PySem.W.Frag} {mg : Str → Option Value} {base : Heap} {C : Addr} {x m : Str} {sp : Sp} {dvs : List V} {j k : Nat}
theorem metMono (h : j ≤ k) (c : C8.Met P w K mg base j C m sp dvs) : C8.Met P w K mg base k C m sp dvs := by
  obtain ⟨f, fd, ps, ds, h1, h2, F, h3, h4⟩ := c.ex
  exact ⟨f, fd, ps, ds, h1, h2, F.mono h, h3, h4⟩
theorem calMono (h : j ≤ k) (c : C8.Cal P w K mg base j x sp dvs) : C8.Cal P w K mg base k x sp dvs := by
  obtain ⟨f, fd, ps, ds, F, h1, h2, h3, h4⟩ := c.ex
  exact ⟨f, fd, ps, ds, F.mono h, h1, h2, h3, h4⟩
end
theorem rv_isB {a b : Bool} {H : Hp} : RV rIsB (.bl a) (.bl b) H (.bl (decide (a = b))) := fun H1 _ _ q => ⟨a, b, rfl, rfl, q H1 (Ex.refl H1)⟩
end Tk
namespace Tk
open PySem PySem.Spec PyProof.Rows L2 Evl
/-! a class made in a try: what leaves its __init__ is the try's -/
def tMakeS (C : Addr) (sp : Sp) (E : L2.St → XK) (t : TA) : TE := fun σ H Q => t σ H fun vs H1 => ∀ x dx, H1 x = none → H1 dx = none → dx ≠ x → sp (.ref x :: vs) (upd (upd H1 dx (.own x)) x (.ins C dx [])) (fun v H2 => v = .non ∧ Q (.ref x) H2) (E σ)
section
variable {X : Cx} {CX : CXT} {k : Nat} {f C : Addr} {fd : FuncData} {ps : List Str} {sp : Sp} {E : L2.St → XK} {x : Str} {p pos : Pos} {e : Expr} {es : List Expr} {t : TA}
theorem goMakeS {pn : List (Addr × Obj)} {σ : L2.St} {H : Hp} {s : Shared} {Q : VK} {us : List Value} {vs : List V} (M : Mk X.K C f) (F : FnOk X.prog X.w X.K X.mg X.base CX k f fd ps sp) (hr : Room (k + 1) X.A) (hb : Binds X.K fd ps []) (hx : PassesAt CX X σ (E σ)) (I : Inv X pn σ H s) (r : Vals vs us)
    (h : ∀ x dx, H x = none → H dx = none → dx ≠ x → sp (.ref x :: vs) (upd (upd H dx (.own x)) x (.ins C dx [])) (fun v H2 => v = .non ∧ Q (.ref x) H2) (E σ)) : wpAny (model X.prog X.w) X.A (call (.ref C) us) (EP X pn σ Q) X.xe s := by
  have free1 : H (s.heap.objs.size + 1) = none := I.hok.fresh (Nat.le_succ _)
  have free0 : H s.heap.objs.size = none := I.hok.fresh (Nat.le_refl _)
  have made := h _ _ free1 free0 (Nat.ne_of_lt (Nat.lt_succ_self _))
  have J := Inv.made (C := C) I
  have vals : Vals (V.ref (s.heap.objs.size + 1) :: vs) (Value.ref (s.heap.objs.size + 1) :: us) := .cons rfl r
  have many : (Value.ref (s.heap.objs.size + 1) :: us).length = ps.length := vals.length.symm.trans (F.len _ _ _ _ made)
  have bound := hb _ (Value.ref (s.heap.objs.size + 1) :: us) J.kIn (by rw [List.append_nil]; exact many)
  rw [List.append_nil] at bound
  refine wpAny_call (make_map (f := f) I.kIn M.makes M.init (beq_iff_eq.mp M.fn) (codeAny_mono (F.run _ X.stack _ _ _ _ _ _ (E σ) (hr.make C us []) (J.env0.make C us []) bound vals made) fun res s' got => ?_))
  match res, got with
  | .error err, got => exact hx pn _ _ err s' J got
  | .ok (.ret u), got =>
    obtain ⟨v, H3, J3, rv, ev, q3⟩ := J.after got
    subst ev
    exact ⟨rv, ⟨V.ref (s.heap.objs.size + 1), H3, J3, rfl, q3⟩⟩
  | .ok .next, got => exact False.elim got
  | .ok .brk, got => exact False.elim got
  | .ok .cont, got => exact False.elim got
theorem pe_makeS (M : Mk X.K C f) (F : FnOk X.prog X.w X.K X.mg X.base CX k f fd ps sp) (hr : Room (k + 1) X.A) (hg : Gl X x) (hm : X.mg x = some (.ref C)) (hb : Binds X.K fd ps []) (hx : ∀ σ, PassesAt CX X σ (E σ)) (ha : PA X (e :: es) t)
    (hdb : (x == ("__debug__" : Str)) = false := by decide) (he : starEach (e :: es) X.env = (false, eval e X.env) :: starEach es X.env := by rfl) (hpl : (backTo pos (starEach es X.env)).any (·.1) = false := by rfl) : PE X (.Call (.Name x p) (e :: es) [] pos) (tMakeS C sp E t) :=
  ⟨fun pn s σ H Q I h => wpAny_Call_Name_kw (ld_glob I hg hm (PySem.W.callWith_K (h₀ := X.base) I.ok.mod.kin M.kp (thn (ha.run pos pn s σ H _ I h) fun us s1 ⟨vs, H1, I1, r, q⟩ => ⟨I1.kIn, goMakeS M F hr hb (hx σ) I1 r q⟩) he hpl) hdb)⟩
end
/-! a for by what holds of the slots -/
def GNxP (g : TG) (u : TS) (x : V) (σ : L2.St) (H : Hp) (P : L2.St → Prop) : Prop := ∀ H1, Ex H H1 → ∀ D : Ends, (∀ σ' H2, Ex H1 H2 → P σ' → D.nx σ' H2) → g x σ H1 fun σ2 H2 => u D σ2 H2
theorem gnxp_name {j : Nat} {u : TS} {x : V} {σ : L2.St} {H : Hp} {P : L2.St → Prop} (h : NxP u (σ.set j (some x)) H P) : GNxP (gName j) u x σ H P := fun H1 e D q => h H1 e D q
theorem nxp_for {wi : TI} {items : Nat → V} {n : Nat} {g : TG} {u : TS} {σ : L2.St} {H : Hp} (Iv : Nat → L2.St → Prop) (i0 : Iv 0 σ) (h : EvI wi σ H items n) (hs : ∀ i s, i < n → Iv i s → GNxP g u (items i) s H (Iv (i + 1))) : NxP (tFor wi g u) σ H (Iv n) := fun H1 e D q =>
  h H1 e _ fun J H2 e2 G => by
    refine ⟨fun i m s H3 => m = n - i ∧ i ≤ n ∧ Iv i s ∧ Ex H2 H3, ⟨n, by simp, Nat.zero_le _, i0, Ex.refl _⟩, ?_⟩
    rintro i m s H3 ⟨rfl, hi, hv, e3⟩
    by_cases hlt : i < n
    · refine .inr ⟨G.go i H3 e3 hlt, fun s' H' => Iv (i + 1) s' ∧ Ex H2 H', fun s' H' p => ⟨n - (i + 1), by omega, rfl, hlt, p.1, p.2⟩, fun x H' y => ?_⟩
      obtain ⟨rfl, rfl⟩ := G.yld i x H3 H' e3 hlt y
      exact hs i s hlt hv _ ((e.trans e2).trans e3) _ fun s' H4 e4 p => ⟨p, e3.trans e4⟩
    · obtain rfl : i = n := by omega
      exact .inl ⟨G.stop _ e3, q _ _ (e2.trans e3) hv⟩
theorem rv_notB {a b : Bool} {H : Hp} : RV rNotB (.bl a) (.bl b) H (.bl (!decide (a = b))) := fun H1 _ _ q => ⟨a, b, rfl, rfl, q H1 (Ex.refl H1)⟩
end Tk
namespace Tk
open PySem PySem.Spec PyProof.Rows L2 Evl NdefX LamX
/-! a function made by one def and handed to another: its cells are no frame of those that stand around -/
def CellsFar (cl : List (Str × Addr)) (outer : List Env) : Prop := ∀ y c, cl.lookup y = some c → c ∉ frs outer
structure FnOkC (P : Program) (w : World) (K : PySem.W.Frag) (mg : Str → Option Value) (base : Heap) (k : Nat) (f : Addr) (fd : FuncData) (ps : List Str) (cl : List (Str × Addr)) (fr : List Str) (ws : List (Option V)) (sp : Sp) : Prop where
  len : ∀ vs H Q E, sp vs H Q E → vs.length = ps.length
  run : ∀ (A : Around) (outer : List Env) (s : Shared) (H : Hp) (args : Args) (us : List Value) (vs : List V) (Q : VK) (E : XK), Room k A → Env0 P w K mg base A outer s H → CellsAt cl fr ws s.heap H → CellsFar cl outer → BindsTo s fd args (ps.zip us) → Vals vs us → sp vs H Q E →
    codeAny (model P w) A (.call (.ref f) args) (CR C8.CX0 outer P w H s Q E) s
section
variable {P : Program} {w : World} {K : PySem.W.Frag} {mg : Str → Option Value} {base : Heap}
theorem fn0C {x qual : Str} {st : Stmt} {f : Addr} {fd : FuncData} {N ps fr : List Str} {k : Nat} {sp : Sp} {cl : List (Str × Addr)} {ws : List (Option V)} (F : C8.Fun K x qual st f fd) (S : FnScope N ps (C8.fnScope st)) (len : ∀ vs H Q E, sp vs H Q E → vs.length = ps.length)
    (hbody : ∀ (cdv : Value) (A : Around) (outer : List Env) (s : Shared) (H : Hp) (vs : List V) (Q : VK) (E : XK), Room k (A.deeper (envOfC qual (C8.fnScope st) s.heap.objs.size f cdv)) → CellsAt cl fr ws s.heap H → CellsFar cl outer → sp vs H Q E →
      ∃ t, PSs (cxOf C8.CX0 P w K mg base N qual (C8.fnScope st) f cdv A outer s H E).nox (C8.fnBody st) t ∧ t { nx := fun _ H' => Q .non H', rt := Q } (L2.start N vs) H) : FnOkC P w K mg base (k + 1) f fd ps cl fr ws sp := by
  obtain ⟨oc, od, dV, kV, doc, pm, an, cdv, ct, osl, e0, lk, hcd⟩ := F.ex
  subst e0
  refine ⟨len, fun A outer s H args us vs Q E room st0 cells far bnd vals ok => ?_⟩
  have kin : K.In s.heap := st0.mod.kin.keeps fun b o z => (st0.bs b o z).1
  have nolim : s.heap.NoLimit := st0.mod.nolimit.keeps fun b o z => (st0.bs b o z).1
  have many : vs.length = ps.length := len _ _ _ _ ok
  have kinds : ∀ y ∈ ps.zip us, (C8.fnScope st).names.lookup y.1 = some .local ∨ ((C8.fnScope st).names.lookup y.1 = some .cell ∧ ((cellsFrom (s.heap.objs.size + 1) (C8.fnScope st).names []).lookup y.1).isSome = true) := by
    intro y hy
    rcases S.par y.1 (List.of_mem_zip (show (y.1, y.2) ∈ ps.zip us from hy)).1 with q | q
    · exact Or.inl q
    · exact Or.inr ⟨q, PySem.W.cellsFrom_some _ _ _ (Or.inl q)⟩
  refine codeAny_call_function room.depth (kin f _ lk) rfl S.co S.gen rfl (PySem.W.codeRec_of kin hcd) (bnd _ _ _ _ ?_)
  refine wpAny_newFunctionEnv_cells S.kind kinds fun env e1 s1 inC => ?_
  subst e1
  refine ⟨nolim.keeps inC.toInCall.keep, codeAny_func ?_⟩
  obtain ⟨t, run, post⟩ := hbody cdv A outer s H vs Q E (room.deeper _) cells far ok
  have start0 : Inv (cxOf C8.CX0 P w K mg base N qual (C8.fnScope st) f cdv A outer s H E) [] (L2.start N vs) H s1 := inv_start S room.hd st0 many vals inC
  refine wpAny_mono (run.nox.run [] s1 (L2.start N vs) H _ start0 post) (fun fl s2 done => ?_) fun _ _ z => z
  match fl, done with
  | .ret u, ⟨v, σ2, H2, J, rv, q⟩ => exact ⟨v, H2, J.os, J.bare, J.base, J.hok, rv, q⟩
  | .next, ⟨σ2, H2, J, q⟩ => exact ⟨V.non, H2, J.os, J.bare, J.base, J.hok, rfl, q⟩
  | .brk, ⟨_, _, _, q⟩ => exact q.elim
  | .cont, ⟨_, _, _, q⟩ => exact q.elim
end
section
variable {X : Cx} {pins : List (Addr × Obj)} {σ : L2.St} {H : Hp} {s : Shared} {cl : List (Str × Addr)} {ps fr : List Str} {ws : List (Option V)} {wsOf : L2.St → List (Option V)} {i j k : Nat} {x : Str} {e : Expr} {es : List Expr} {p pos : Pos} {t : TA}
/-- in the frame to which it was handed -/
theorem cells_later (I : Inv X pins σ H s) (hx : X.ex = []) (C : CellsAt cl fr ws X.s_0.heap X.H_0) (far : CellsFar cl X.outer) : CellsAt cl fr ws s.heap H := C.later far (fun y c _ z => by rw [hx] at z; cases z) I
/-- in the frame that made it -/
theorem far_made (I : Inv X pins σ H s) (hst : X.stack = X.env :: X.outer) (hfr : X.env.frame = some X.env.locals) (hfn : ∀ y, X.fn y = true) (hsub : ∀ y c, cl.lookup y = some c → X.env.cells.lookup y = some c) : CellsFar cl X.stack := fun y c e hb => by
  have e1 := hsub y c e
  have hb2 : c = X.env.locals ∨ c ∈ frs X.outer := by
    rw [hst] at hb
    unfold frs at hb ⊢
    rw [List.filterMap_cons, hfr] at hb
    exact List.mem_cons.mp hb
  rcases hb2 with z | z
  · obtain ⟨v, o, ho, hd⟩ := I.cell y c e1
    obtain ⟨m, ⟨o2, es, ep, ho2, hd2, _⟩, _⟩ := I.loc
    rw [z, ho2] at ho
    cases ho
    rw [hd2] at hd
    cases hd
  · have a := I.ok.cab y c (hfn y) e1
    obtain ⟨_, o, ho, _⟩ := I.ok.funs.mem z
    exact absurd (Heap.lt_size ho) (Nat.not_lt.mpr a)
/-- f(..), f a local that holds a function made by mk -/
def tCallG (mk : Addr → NF) (i : Nat) (wsOf : L2.St → List (Option V)) (sp : List (Option V) → Sp) (t : TA) : TE := fun σ H Q => ∃ f c', σ[i]? = some (some (.ref f)) ∧ H f = some (FnO f (mk c')) ∧
  t σ H fun vs H1 => H1 f = some (FnO f (mk c')) ∧ H1 (mk c').c = some (CodeO (mk c').c (mk c').qual) ∧ sp (wsOf σ) vs H1 Q C8.E0
theorem pe_callG {mk : Addr → NF} {sp : List (Option V) → Sp} (Fn : ∀ f c', NOk X.prog X.w X.K X.mg X.base C8.CX0 k f (mk c') ps fr sp) (hcl : ∀ c', (mk c').cl = cl) (C : ∀ pins σ H s, Inv X pins σ H s → CellsAt cl fr (wsOf σ) s.heap H) (hr : Room j X.A) (hk : k ≤ j) (hN : X.N[i]? = some x) (hv : Vis X.env.scope x)
    (ha : PA X (e :: es) t) (hd : (x == ("__debug__" : Str)) = false := by decide) (hcd : (x == ("__classdict__" : Str)) = false := by decide) (he : starEach (e :: es) X.env = (false, eval e X.env) :: starEach es X.env := by rfl)
    (hpl : (backTo pos (starEach es X.env)).any (·.1) = false := by rfl) : PE X (.Call (.Name x p) (e :: es) [] pos) (tCallG mk i wsOf sp t) := by
  constructor
  intro pins s σ H Q I h
  obtain ⟨f, c', at0, fo, ht⟩ := h
  have look := (pe_var (X := X) (pos := p) hN hv hd hcd).run pins s σ H (fun v H1 => v = .ref f ∧ H1 = H) I ⟨V.ref f, at0, rfl, rfl⟩
  refine wpAny_Call_Name_kw (thn look fun u s1 got => ?_)
  obtain ⟨v, H1, I1, r1, ev, eH⟩ := got
  subst ev
  rw [eH] at I1
  have eu : u = Value.ref f := r1
  subst eu
  refine PySem.W.callWith_F (first := []) (fnAt_of I1 fo) (thn (ha.run pos pins s1 σ H _ I1 ht) fun us s2 got2 => ?_) he hpl
  obtain ⟨vs, H2, I2, r, g1, g2, q⟩ := got2
  have cells := C pins σ H2 s2 I2
  rw [← hcl c'] at cells
  refine ⟨fnAt_of I2 g1, wpAny_call (codeAny_mono ((Fn f c').run X.A X.stack s2 H2 us vs (wsOf σ) Q C8.E0 (hr.mono hk) I2.env0 g1 g2 cells r q) fun res s3 got3 => ?_)⟩
  match res, got3 with
  | .error _, got3 => exact False.elim got3
  | .ok (.ret u2), got3 => exact I2.after got3
  | .ok .next, got3 => exact False.elim got3
  | .ok .brk, got3 => exact False.elim got3
  | .ok .cont, got3 => exact False.elim got3
theorem ev_callG {mk : Addr → NF} {R : List (Option V) → List V → Hp → V → Prop} {f c' : Addr} {vs : List V} {v : V} (hs : σ[i]? = some (some (.ref f))) (hf : H f = some (FnO f (mk c'))) (hc : H (mk c').c = some (CodeO (mk c').c (mk c').qual)) (ha : EvA t σ H vs) (hR : ∀ H1, Ex H H1 → R (wsOf σ) vs H1 v) :
    Ev (tCallG mk i wsOf (fun ws => spF (R ws)) t) σ H v := fun H1 e Q q =>
  ⟨f, c', hs, e _ _ hf, ha H1 e _ fun H2 e2 => ⟨(e.trans e2) _ _ hf, (e.trans e2) _ _ hc, v, fun H3 e3 => hR H3 ((e.trans e2).trans e3), fun H3 e3 => q H3 (e2.trans e3)⟩⟩
/-- a def of the module that is handed such a function -/
structure CalC (P : Program) (w : World) (K : PySem.W.Frag) (mg : Str → Option Value) (base : Heap) (k : Nat) (x : Str) (fr : List Str) (sp : List (Str × Addr) → List (Option V) → Sp) : Prop where
  ex : ∃ (f : Addr) (fd : FuncData) (ps : List Str), (∀ cl ws, FnOkC P w K mg base k f fd ps cl fr ws (sp cl ws)) ∧ mg x = some (.ref f) ∧ PySem.W.keepIn K (.ref f) = true ∧ Binds K fd ps []
def tCallC (cl : List (Str × Addr)) (wsOf : L2.St → List (Option V)) (sp : List (Str × Addr) → List (Option V) → Sp) (t : TA) : TE := fun σ H Q => t σ H fun vs H1 => sp cl (wsOf σ) vs H1 Q C8.E0
theorem pe_cC {sp : List (Str × Addr) → List (Option V) → Sp} (c : CalC X.prog X.w X.K X.mg X.base k x fr sp) (C : ∀ pins σ H s, Inv X pins σ H s → CellsAt cl fr (wsOf σ) s.heap H) (far : ∀ pins σ H s, Inv X pins σ H s → CellsFar cl X.stack) (hr : Room j X.A) (hk : k ≤ j) (hg : Gl X x) (ha : PA X (e :: es) t)
    (hdb : (x == ("__debug__" : Str)) = false := by decide) (he : starEach (e :: es) X.env = (false, eval e X.env) :: starEach es X.env := by rfl) (hpl : (backTo pos (starEach es X.env)).any (·.1) = false := by rfl) :
    PE X (.Call (.Name x p) (e :: es) [] pos) (tCallC cl wsOf sp t) := by
  obtain ⟨f, fd, ps, F, gm, kp, b⟩ := c.ex
  constructor
  intro pins s σ H Q I h
  refine wpAny_Call_Name_kw (ld_glob I hg gm (PySem.W.callWith_K (h₀ := X.base) I.ok.mod.kin kp (thn (ha.run pos pins s σ H _ I h) fun us s1 got => ?_) he hpl) hdb)
  obtain ⟨vs, H1, I1, r, q⟩ := got
  have many : us.length = ps.length := r.length.symm.trans ((F cl (wsOf σ)).len _ _ _ _ q)
  have bd := b s1 us I1.kIn (by rw [List.append_nil]; exact many)
  rw [List.append_nil] at bd
  refine ⟨I1.kIn, wpAny_call (codeAny_mono ((F cl (wsOf σ)).run X.A X.stack s1 H1 ⟨us, []⟩ us vs Q C8.E0 (hr.mono hk) I1.env0 (C pins σ H1 s1 I1) (far pins σ H1 s1 I1) bd r q) fun res s3 got3 => ?_)⟩
  match res, got3 with
  | .error _, got3 => exact False.elim got3
  | .ok (.ret u2), got3 => exact I1.after got3
  | .ok .next, got3 => exact False.elim got3
  | .ok .brk, got3 => exact False.elim got3
  | .ok .cont, got3 => exact False.elim got3
theorem ev_callC {R : List (Str × Addr) → List (Option V) → List V → Hp → V → Prop} {vs : List V} {v : V} (ha : EvA t σ H vs) (hR : ∀ H1, Ex H H1 → R cl (wsOf σ) vs H1 v) : Ev (tCallC cl wsOf (fun cl ws => spF (R cl ws)) t) σ H v := fun H1 e Q q =>
  ha H1 e _ fun H2 e2 => ⟨v, fun H3 e3 => hR H3 ((e.trans e2).trans e3), fun H3 e3 => q H3 (e2.trans e3)⟩
end
/-! what grows but for tables -/
theorem exN_l {K : PySem.W.Frag} {H H' : Hp} {a : Addr} {xs : List V} (e : ExtN H H') (h : SqL K H a xs) : SqL K H' a xs := by
  rcases h with (h | ⟨o, h⟩) | h
  · exact .inl (.inl (e _ _ h fun _ z => by cases z))
  · exact .inl (.inr ⟨o, e _ _ h fun _ z => by cases z⟩)
  · exact .inr h
theorem exN_t {H H' : Hp} {a : Addr} {xs : List V} (e : ExtN H H') (h : H a = some (.tup xs)) : H' a = some (.tup xs) := e _ _ h fun _ z => by cases z
theorem exN_lst {H H' : Hp} {a : Addr} {xs : List V} (e : ExtN H H') (h : H a = some (.lst xs)) : H' a = some (.lst xs) := e _ _ h fun _ z => by cases z
theorem exN_prs {H H' : Hp} {ps : List Addr} {vs : List (Int × Int)} (e : ExtN H H') (h : Prs H ps vs) : Prs H' ps vs := by
  induction h with
  | nil => exact .nil
  | cons h1 _ ih => exact .cons (exN_t e h1) ih
theorem exN_pairs {H H' : Hp} {l : Addr} {vs : List (Int × Int)} (e : ExtN H H') (h : PairsT H l vs) : PairsT H' l vs := by
  obtain ⟨ps, h1, h2⟩ := h
  exact ⟨ps, exN_lst e h1, exN_prs e h2⟩
theorem Ex.extN {H H' : Hp} (e : Ex H H') : ExtN H H' := fun b o h _ => e b o h
/-! for, from the end -/
theorem ei_revR {σ : L2.St} {H : Hp} {te : TE} {n : Int} (h : Ev te σ H (.int n)) (h0 : 0 ≤ n) (h1 : n < 2 ^ 62) : EvI (iRevR (tRg1 te)) σ H (fun i => .int (0 + (((n - 0).toNat : Nat) : Int) - 1 + (i : Nat) * (-1))) (n - 0).toNat := fun H1 e R q =>
  h H1 e _ fun H2 e2 => ⟨n, rfl, by omega, by omega, by omega, h1, q _ H2 e2 gen_c⟩
/-! a for each of whose turns goes on or hands back -/
theorem rtwp_for {wi : TI} {items : Nat → V} {n : Nat} {g : TG} {u tz : TS} {σ : L2.St} {H : Hp} {W : V → Hp → Prop} (Iv : Nat → L2.St → Prop) (i0 : Iv 0 σ) (h : EvI wi σ H items n) (hs : ∀ i s, i < n → Iv i s → GNxP g u (items i) s H (Iv (i + 1)) ∨ GRtW g u (items i) s H W)
    (rest : ∀ s, Iv n s → RtW tz s H W) : RtW (tSeq (tFor wi g u) tz) σ H W := fun H1 e D q =>
  h H1 e _ fun J H2 e2 G => by
    refine ⟨fun i m s H3 => m = n - i ∧ i ≤ n ∧ Iv i s ∧ Ex H2 H3, ⟨n, by simp, Nat.zero_le _, i0, Ex.refl _⟩, ?_⟩
    rintro i m s H3 ⟨rfl, hi, hv, e3⟩
    by_cases hlt : i < n
    · refine .inr ⟨G.go i H3 e3 hlt, fun s' H' => Iv (i + 1) s' ∧ Ex H2 H', fun s' H' p => ⟨n - (i + 1), by omega, rfl, hlt, p.1, p.2⟩, fun x H' y => ?_⟩
      obtain ⟨rfl, rfl⟩ := G.yld i x H3 H' e3 hlt y
      rcases hs i s hlt hv with z | z
      · exact z _ ((e.trans e2).trans e3) _ fun s' H4 e4 p => ⟨p, e3.trans e4⟩
      · exact z _ ((e.trans e2).trans e3) _ fun v H4 e4 w => q v H4 ((e2.trans e3).trans e4) w
    · obtain rfl : i = n := by omega
      exact .inl ⟨G.stop _ e3, rest s hv H3 ((e.trans e2).trans e3) D fun v H4 e4 w => q v H4 ((e2.trans e3).trans e4) w⟩
theorem rtwp_for0 {wi : TI} {items : Nat → V} {n : Nat} {g : TG} {u : TS} {σ : L2.St} {H : Hp} {W : V → Hp → Prop} (Iv : Nat → L2.St → Prop) (i0 : Iv 0 σ) (h : EvI wi σ H items n) (hs : ∀ i s, i < n → Iv i s → GNxP g u (items i) s H (Iv (i + 1)) ∨ GRtW g u (items i) s H W)
    (rest : ∀ s, Iv n s → False) : RtW (tFor wi g u) σ H W := fun H1 e D q =>
  h H1 e _ fun J H2 e2 G => by
    refine ⟨fun i m s H3 => m = n - i ∧ i ≤ n ∧ Iv i s ∧ Ex H2 H3, ⟨n, by simp, Nat.zero_le _, i0, Ex.refl _⟩, ?_⟩
    rintro i m s H3 ⟨rfl, hi, hv, e3⟩
    by_cases hlt : i < n
    · refine .inr ⟨G.go i H3 e3 hlt, fun s' H' => Iv (i + 1) s' ∧ Ex H2 H', fun s' H' p => ⟨n - (i + 1), by omega, rfl, hlt, p.1, p.2⟩, fun x H' y => ?_⟩
      obtain ⟨rfl, rfl⟩ := G.yld i x H3 H' e3 hlt y
      rcases hs i s hlt hv with z | z
      · exact z _ ((e.trans e2).trans e3) _ fun s' H4 e4 p => ⟨p, e3.trans e4⟩
      · exact z _ ((e.trans e2).trans e3) _ fun v H4 e4 w => q v H4 ((e2.trans e3).trans e4) w
    · obtain rfl : i = n := by omega
      exact (rest s hv).elim
theorem grtw_name2 {j : Nat} {u : TS} {x : V} {σ : L2.St} {H : Hp} {W : V → Hp → Prop} (h : RtW u (σ.set j (some x)) H W) : GRtW (gName j) u x σ H W := fun H1 e D q => h H1 e D q
/-! [f(a, b) for a, b in rows] -/
theorem el_lcP {K : PySem.W.Frag} {σ : L2.St} {H : Hp} {tl te : TE} {tt : TT} {a : Addr} {rs : List (Int × Int)} {i j : Nat} {vs : List Nat} (v : Nat → V) (h : Ev tl σ H (.ref a)) (hx : PairsT H a rs) (hz : rs.length ≤ 40000) (hw : ∀ x y, wipe (((wipe σ vs).set i (some x)).set j (some y)) vs = wipe σ vs)
    (ht : ∀ σ' H1, EvT tt σ' H1 true) (he : ∀ (k : Nat) (q : Int × Int) H1, Ex H H1 → rs[k]? = some q → Ev te (((wipe σ vs).set i (some (.int q.1))).set j (some (.int q.2))) H1 (v k)) :
    EvL (tLc (iList K tl) (gTup K 2 (gCons (gName i) (gCons (gName j) gNil))) tt te vs) σ H (given rs.length (fun _ => true) v) := by
  obtain ⟨ps, h1, h2⟩ := hx
  have len : (ps.map V.ref).length = rs.length := by rw [List.length_map]; exact h2.len
  rw [← len]
  intro H0 e Q q
  refine h H0 e _ fun H1 e1 => ⟨a, rfl, ⟨ps.map V.ref, sq_of ((e.trans e1) _ _ h1)⟩, fun Dl hD => ?_⟩
  refine lc_list (xs := ps.map V.ref) (Cw H1 (fun _ => true) v Dl) ⟨hD, Ex.new hD, upd_same⟩ (fun k H' _ p => sq_of (((e.trans e1).trans p.2.1) _ _ h1)) (fun k x H' hi p => ?_) fun H' p => q Dl H' (fresh_back e1 p.1) (e1.trans p.2.1) p.2.2
  rw [List.getElem?_map] at hi
  obtain ⟨b, hb, eb⟩ := Option.map_eq_some_iff.mp hi
  subst eb
  have hk : k < rs.length := by
    rw [← h2.len]
    exact (List.getElem?_eq_some_iff.mp hb).1
  obtain ⟨b', hb', ht'⟩ := h2.at (getD_some hk)
  rw [hb] at hb'
  cases hb'
  refine ⟨b, [.int (rs.getD k (0, 0)).1, .int (rs.getD k (0, 0)).2], rfl, st_of (((e.trans e1).trans p.2.1) _ _ ht'), rfl, _, _, rfl, _, _, rfl, rfl, hw _ _, ?_⟩
  exact cw_turn p (by omega) (ht _ H1) fun _ => he k _ H1 (e.trans e1) (getD_some hk)
theorem given_all (n : Nat) (v : Nat → V) : given n (fun _ => true) v = (List.range n).map v := by
  unfold given
  rw [List.filter_eq_self.mpr fun _ _ => rfl]
end Tk
namespace Tk
open PySem PySem.Spec PyProof.Rows L2 Evl
def top (i : Nat) : Stmt := PySem.Challenge.pw_turnstile_k03_whole_first_broken.main.body.getD i (.Pass ⟨0, 0, 0, 0⟩)
abbrev s_wall : Stmt := top 0
abbrev s_broken : Stmt := top 2
theorem sc_broken : FnScope ["bound", "visits", "excess", "first", "last", "moments", "totals", "moment", "_"] ["bound", "visits"] (C8.fnScope s_broken) := C8.fnScope_by (by decide +kernel)
abbrev s_broken_excess : Stmt := (C8.fnBody (top 2)).getD 2 (.Pass ⟨0, 0, 0, 0⟩)
theorem sc_broken_excess : NdefX.NScope ["start", "end", "bound", "moments", "totals", "room"] ["start", "end"] ["bound", "moments", "totals"] (C8.fnScope s_broken_excess) := NdefX.nscope_by (by decide +kernel)
abbrev s_totals_ahead : Stmt := top 3
theorem sc_totals_ahead : FnScope ["visits", "totals", "_", "cost"] ["visits"] (C8.fnScope s_totals_ahead) := C8.fnScope_by (by decide +kernel)
abbrev s_first_start : Stmt := top 4
theorem sc_first_start : FnScope ["many", "excess", "found", "end", "start"] ["many", "excess"] (C8.fnScope s_first_start) := C8.fnScope_by (by decide +kernel)
abbrev s_is_within : Stmt := top 9
theorem sc_is_within : FnScope ["value", "least", "largest"] ["value", "least", "largest"] (C8.fnScope s_is_within) := C8.fnScope_by (by decide +kernel)
abbrev s_Bound_room : Stmt := inClass (top 15) 0
theorem sc_Bound_room : FnScope ["self", "first", "last"] ["self", "first", "last"] (C8.fnScope s_Bound_room) := C8.fnScope_by (by decide +kernel)
abbrev s_Bound_meter : Stmt := inClass (top 15) 1
theorem sc_Bound_meter : FnScope ["self"] ["self"] (C8.fnScope s_Bound_meter) := C8.fnScope_by (by decide +kernel)
abbrev s_Jar_init : Stmt := inClass (top 16) 0
theorem sc_Jar_init : FnScope ["self", "size", "flow"] ["self", "size", "flow"] (C8.fnScope s_Jar_init) := C8.fnScope_by (by decide +kernel)
abbrev s_Jar_size : Stmt := inClass (top 16) 1
theorem sc_Jar_size : FnScope ["self"] ["self"] (C8.fnScope s_Jar_size) := C8.fnScope_by (by decide +kernel)
abbrev s_Jar_flow : Stmt := inClass (top 16) 2
theorem sc_Jar_flow : FnScope ["self"] ["self"] (C8.fnScope s_Jar_flow) := C8.fnScope_by (by decide +kernel)
abbrev s_Jar_room : Stmt := inClass (top 16) 3
theorem sc_Jar_room : FnScope ["self", "first", "last"] ["self", "first", "last"] (C8.fnScope s_Jar_room) := C8.fnScope_by (by decide +kernel)
abbrev s_Jar_meter : Stmt := inClass (top 16) 4
theorem sc_Jar_meter : FnScope ["self"] ["self"] (C8.fnScope s_Jar_meter) := C8.fnScope_by (by decide +kernel)
abbrev s_Window_init : Stmt := inClass (top 17) 0
theorem sc_Window_init : FnScope ["self", "most", "span"] ["self", "most", "span"] (C8.fnScope s_Window_init) := C8.fnScope_by (by decide +kernel)
abbrev s_Window_most : Stmt := inClass (top 17) 1
theorem sc_Window_most : FnScope ["self"] ["self"] (C8.fnScope s_Window_most) := C8.fnScope_by (by decide +kernel)
abbrev s_Window_span : Stmt := inClass (top 17) 2
theorem sc_Window_span : FnScope ["self"] ["self"] (C8.fnScope s_Window_span) := C8.fnScope_by (by decide +kernel)
abbrev s_Window_room : Stmt := inClass (top 17) 3
theorem sc_Window_room : FnScope ["self", "first", "last"] ["self", "first", "last"] (C8.fnScope s_Window_room) := C8.fnScope_by (by decide +kernel)
abbrev s_Window_meter : Stmt := inClass (top 17) 4
theorem sc_Window_meter : FnScope ["self"] ["self"] (C8.fnScope s_Window_meter) := C8.fnScope_by (by decide +kernel)
abbrev s_Lcell : Stmt := top 19
theorem sc_Lcell : FnScope ["_law_script", "_law_k", "_law_cell_here", "_law_more"] ["_law_script", "_law_k"] (C8.fnScope s_Lcell) := C8.fnScope_by (by decide +kernel)
abbrev s_Lbound : Stmt := top 20
theorem sc_Lbound : FnScope ["_law_cell_here", "_law_scale_here", "_law_flow"] ["_law_cell_here", "_law_scale_here"] (C8.fnScope s_Lbound) := C8.fnScope_by (by decide +kernel)
abbrev s_Lmade : Stmt := top 21
theorem sc_Lmade : FnScope ["_law_bound_here"] ["_law_bound_here"] (C8.fnScope s_Lmade) := C8.fnScope_by (by decide +kernel)
abbrev s_Lroom : Stmt := top 22
theorem sc_Lroom : FnScope ["_law_bound_here", "_law_first_here", "_law_last"] ["_law_bound_here", "_law_first_here", "_law_last"] (C8.fnScope s_Lroom) := C8.fnScope_by (by decide +kernel)
abbrev s_Lwait : Stmt := top 23
theorem sc_Lwait : FnScope ["_law_bound_here", "_law_visits", "_law_moment", "_law_cost_here", "_law_found", "_law_used", "_law_k"] ["_law_bound_here", "_law_visits", "_law_moment", "_law_cost_here"] (C8.fnScope s_Lwait) := C8.fnScope_by (by decide +kernel)
abbrev s_Lgap : Stmt := top 24
theorem sc_Lgap : FnScope ["_law_cell_here"] ["_law_cell_here"] (C8.fnScope s_Lgap) := C8.fnScope_by (by decide +kernel)
abbrev s_Lcost : Stmt := top 25
theorem sc_Lcost : FnScope ["_law_cell_here", "_law_scale_here", "_law_many"] ["_law_cell_here", "_law_scale_here"] (C8.fnScope s_Lcost) := C8.fnScope_by (by decide +kernel)
abbrev s_Lscale : Stmt := top 26
theorem sc_Lscale : FnScope ["_law_cell_here"] ["_law_cell_here"] (C8.fnScope s_Lscale) := C8.fnScope_by (by decide +kernel)
abbrev s_Lfirst : Stmt := top 27
theorem sc_Lfirst : FnScope ["_law_bound_here", "_law_visits", "_law_at", "_law_used", "_law_end", "_law_last", "_law_room_here"] ["_law_bound_here", "_law_visits"] (C8.fnScope s_Lfirst) := C8.fnScope_by (by decide +kernel)
abbrev s_Lright : Stmt := top 28
theorem sc_Lright : FnScope ["_law_found", "_law_due"] ["_law_found", "_law_due"] (C8.fnScope s_Lright) := C8.fnScope_by (by decide +kernel)
abbrev s_law : Stmt := top 29
theorem sc_law : FnScope ["_law_script", "_law_scale_here", "_law_bound_here", "_law_moment", "_law_visits", "_law_k", "_law_handed", "_law_found", "_law_half"] ["_law_script"] (C8.fnScope s_law) := C8.fnScope_by (by decide +kernel)
/-- what the top has left of the built-ins -/
structure Blt (mg : Str → Option Value) : Prop where
  b_len : mg "len" = none
  b_range : mg "range" = none
  b_min : mg "min" = none
  b_int : mg "int" = none
  b_bool : mg "bool" = none
  b_tuple : mg "tuple" = none
  b_list : mg "list" = none
  b_reversed : mg "reversed" = none
  b_isinstance : mg "isinstance" = none
/-! data compared -/
theorem dp_ints {K : PySem.W.Frag} {H : Hp} : ∀ ns : List Int, DpAll K H (ns.map V.int) (ns.map PyData.int)
  | [] => .nil
  | n :: ns => .cons (.int n) (dp_ints ns)
theorem lay_ints : ∀ ns : List Int, PyData.canLayAll0 (ns.map PyData.int) = true
  | [] => by simp only [List.map_nil, PyData.canLayAll0]
  | n :: ns => by simp only [List.map_cons, PyData.canLayAll0, PyData.canLay0, lay_ints ns, Bool.and_self]
theorem dep_ints : ∀ ns : List Int, PyData.depthAll (ns.map PyData.int) = 0
  | [] => by simp only [List.map_nil, PyData.depthAll]
  | n :: ns => by simp only [List.map_cons, PyData.depthAll, PyData.depth, dep_ints ns, Nat.max_self]
theorem shaped_list {ds : List PyData} (h : PyData.canLayAll0 ds = true) (hd : PyData.depthAll ds ≤ 60) : PySem.SeqAt.shaped (.list ds) = true := by
  unfold PySem.SeqAt.shaped
  rw [Bool.and_eq_true, decide_eq_true_eq]
  refine ⟨by simp only [PyData.canLay0, h], ?_⟩
  simp only [PyData.depth]
  omega
theorem shaped_tuple {ds : List PyData} (h : PyData.canLayAll0 ds = true) (hd : PyData.depthAll ds ≤ 60) : PySem.SeqAt.shaped (.tuple ds) = true := by
  unfold PySem.SeqAt.shaped
  rw [Bool.and_eq_true, decide_eq_true_eq]
  refine ⟨by simp only [PyData.canLay0, h], ?_⟩
  simp only [PyData.depth]
  omega
theorem shaped_ints (ns : List Int) : PySem.SeqAt.shaped (.list (ns.map PyData.int)) = true := shaped_list (lay_ints ns) (by rw [dep_ints]; omega)
theorem shaped_tints (ns : List Int) : PySem.SeqAt.shaped (.tuple (ns.map PyData.int)) = true := shaped_tuple (lay_ints ns) (by rw [dep_ints]; omega)
theorem eqvAll_ints : ∀ ns ms : List Int, PyData.eqvAll (ns.map PyData.int) (ms.map PyData.int) = decide (ns = ms)
  | [], [] => by simp [PyData.eqvAll]
  | [], m :: ms => by simp [PyData.eqvAll]
  | n :: ns, [] => by simp [PyData.eqvAll]
  | n :: ns, m :: ms => by
    simp only [List.map_cons, PyData.eqvAll, PyData.eqv, eqvAll_ints ns ms, List.cons.injEq, Bool.decide_and]
    congr 1
theorem eqv_ints (ns ms : List Int) : PyData.eqv (.list (ns.map PyData.int)) (.list (ms.map PyData.int)) = decide (ns = ms) := by
  simp only [PyData.eqv, eqvAll_ints]
theorem eqv_tints (ns ms : List Int) : PyData.eqv (.tuple (ns.map PyData.int)) (.tuple (ms.map PyData.int)) = decide (ns = ms) := by
  simp only [PyData.eqv, eqvAll_ints]
/-- xs != [] -/
theorem ev_neNil {K : PySem.W.Frag} {σ : L2.St} {H : Hp} {ta : TE} {a : Addr} {ns : List Int} (ha : Ev ta σ H (.ref a)) (hx : SqL K H a (ns.map V.int)) : Ev (tOp (rNeD K) ta (tLst tNil)) σ H (.bl (!decide (ns = []))) :=
  ev_opL (xs := []) ha (el_lst ea_nil (by decide)) fun p H1 hp e => by
    rw [← eqv_ints ns []]
    exact rv_neD (fun H2 e2 => .lst (ex_l (e.trans e2) hx) (dp_ints ns)) (fun H2 e2 => .lst (sq_of (e2 p _ hp)) .nil) (shaped_ints ns) (shaped_ints [])
theorem atI_ints {ns : List Int} {i : Int} (h0 : 0 ≤ i) (h1 : i < (ns.length : Int)) : atI (ns.map V.int) i = some (.int (ns.getD i.toNat 0)) := by
  obtain ⟨j, rfl⟩ : ∃ j : Nat, i = (j : Int) := ⟨i.toNat, by omega⟩
  have hj : j < ns.length := by omega
  refine atI_nat ?_
  rw [List.getElem?_map, Int.toNat_natCast, List.getD_eq_getElem?_getD, List.getElem?_eq_getElem hj]
  rfl
/-! items of displays of numbers -/
inductive Ints : List V → List Int → Prop
  | nil : Ints [] []
  | cons {i : Int} {vs : List V} {ns : List Int} : Ints vs ns → Ints (.int i :: vs) (i :: ns)
theorem Ints.map {vs : List V} {ns : List Int} (h : Ints vs ns) : vs = ns.map V.int := by
  induction h with
  | nil => rfl
  | cons _ ih => rw [ih]; rfl
theorem atI_disp {vs : List V} {ns : List Int} {i : Int} (h : Ints vs ns) (h0 : 0 ≤ i) (h1 : i < (ns.length : Int)) : atI vs i = some (.int (ns.getD i.toNat 0)) := by
  rw [h.map]
  exact atI_ints h0 h1
theorem getD_in {lo hi : Int} : ∀ (l : List Int) (n : Nat), (∀ x ∈ l, lo ≤ x ∧ x ≤ hi) → n < l.length → lo ≤ l.getD n 0 ∧ l.getD n 0 ≤ hi
  | [], _, _, h => absurd h (Nat.not_lt_zero _)
  | x :: _, 0, h, _ => h x List.mem_cons_self
  | _ :: l, n + 1, h, hn => getD_in l n (fun x hx => h x (List.mem_cons_of_mem _ hx)) (Nat.lt_of_succ_lt_succ hn)
def opV : Option Int → V
  | none => .non
  | some i => .int i
local macro_rules | `(tactic| walk_at "tk_at") => `(tactic| fail "tk_at")
local macro_rules | `(tactic| walk_at "tk_at") => `(tactic| exact rfl)
local macro_rules | `(tactic| walk_at "tk_at") => `(tactic| (refine atI_ints ?_ ?_ <;> omega))
local macro_rules | `(tactic| walk_at "tk_at") => `(tactic| (apply atI_disp; (repeat (first | exact Ints.nil | apply Ints.cons)); omega; (simp only [List.length_cons, List.length_nil]; omega)))
local macro_rules | `(tactic| walk_at "tk_len") => `(tactic| (with_reducible apply ev_lenL))
local macro_rules | `(tactic| walk_at "tk_R") => `(tactic| fail "tk_R")
local macro_rules | `(tactic| walk_at "tk_om") => `(tactic| first | omega | (simp only [List.length_map]; omega))
local macro_rules | `(tactic| walk_at "tk_ev") => `(tactic| repeat' (first
  | exact ev_c
  | (with_reducible apply rt_ret)
  | (with_reducible exact rt_retN)
  | (with_reducible apply rt_ifseq)
  | (with_reducible apply rt_seq)
  | (with_reducible apply nx_asg)
  | (with_reducible exact nx_next)
  | (with_reducible apply nx_drop)
  | (with_reducible apply rt_if)
  | (with_reducible apply rtw_ret)
  | (with_reducible apply rtw_seq)
  | ((with_reducible apply ev_var); exact rfl)
  | (with_reducible apply ev_max)
  | (with_reducible apply ev_min)
  | (with_reducible apply ev_intB)
  | (with_reducible apply ev_isN)
  | (with_reducible apply ev_notN)
  | (with_reducible apply ev_if)
  | (with_reducible apply ev_andV)
  | (with_reducible apply ev_orV)
  | (with_reducible apply ev_notV)
  | (with_reducible apply ev_chain)
  | ((with_reducible apply ev_lenI); (with_reducible apply ev_var); exact rfl; assumption)
  | walk_at "tk_len"
  | (with_reducible apply ev_fld)
  | (with_reducible apply ev_pair0)
  | (with_reducible apply ev_pair1)
  | (with_reducible apply ev_ixN)
  | (with_reducible apply ev_ixL)
  | (with_reducible apply ev_ixT)
  | (with_reducible apply ev_methF)
  | (with_reducible apply ev_callF)
  | ((with_reducible show ∀ _, Ex _ _ → _); walk_at "tk_R")
  | (with_reducible apply ev_op)
  | (with_reducible apply ev_un)
  | exact rv_I0
  | ((with_reducible show RV (rI _ _) _ _ _ _); apply rv_I)
  | exact rv_eq rfl
  | exact rv_ne rfl
  | exact ru_neg
  | (with_reducible apply et_test)
  | (with_reducible apply et_B)
  | (with_reducible apply et_and)
  | (with_reducible apply et_or)
  | (with_reducible apply et_not)
  | exact ea_nil
  | (with_reducible apply ea_cons)
  | (with_reducible apply eu_tup)
  | (with_reducible apply el_lst)
  | ((with_reducible show SqL _ _ _ _); assumption)
  | ((with_reducible show PairsT _ _ _); assumption)
  | ((with_reducible show Cls _ _); assumption)
  | ((with_reducible show NoAttr _ _ _); assumption)
  | ((with_reducible show _ = some (HO.ins _ _ _)); assumption)
  | ((with_reducible show List.lookup _ _ = some _); exact rfl)
  | ((with_reducible show List.lookup _ _ = none); exact rfl)
  | ((with_reducible show _[_]? = some _); exact getD_some (by walk_at "tk_om"))
  | ((with_reducible show (0 : Int) ≤ _); walk_at "tk_om")
  | ((with_reducible show SqT _ _ _ _); assumption)
  | ((with_reducible show atI _ _ = some _); walk_at "tk_at")
  | ((with_reducible show CMul _ _); first | (exact .inl (by decide)) | (exact .inr (by decide)) | (exact .inl (by omega)) | (exact .inr (by omega)))
  | ((with_reducible show CDiv _ _); first | (exact ⟨by decide, by decide⟩) | (exact ⟨by walk_at "tk_om", by walk_at "tk_om"⟩))
  | ((with_reducible show CPow _ _); exact ⟨by decide, by decide, by decide⟩)
  | ((with_reducible show _ ≤ 100000); first | decide | (simp only [List.length_cons, List.length_nil]; omega))
  | ((with_reducible show (0 : Int) < _); first | decide | walk_at "tk_om")
  | ((with_reducible show (_ = true → _)); intro)
  | ((with_reducible show (_ = false → _)); intro)))
/-! a drawn number of the script's -/
def mixV (c k : Int) : Int := (c % 2147483647 * (c % 2147483647) % 2147483629 * (c % 2147483647 * (c % 2147483647) % 2147483629) + 69621 * (c % 2147483647 * (c % 2147483647) % 2147483629) + k) % 2147483587
def cellV (ns : List Int) (k : Int) : Int := mixV (if ns = [] then 7919 * k + 11 else 7919 * k + 11 + ns.getD (k % (ns.length : Int)).toNat 0 * 48271 + 96810 * k + k / (ns.length : Int) * 7919) k
theorem cellV_nn (ns : List Int) (k : Int) : 0 ≤ cellV ns k := Int.emod_nonneg _ (by decide)
theorem cellV_lt (ns : List Int) (k : Int) : cellV ns k < 2147483587 := Int.emod_lt_of_pos _ (by decide)
def RCell (K : PySem.W.Frag) (vs : List V) (H : Hp) (v : V) : Prop := ∃ (a : Addr) (ns : List Int) (k : Int), vs = [.ref a, .int k] ∧ SqL K H a (ns.map V.int) ∧ ns.length ≤ 63 ∧ 0 ≤ k ∧ v = .int (cellV ns k)
section
variable {P : Program} {w : World} {K : PySem.W.Frag} {mg : Str → Option Value} {base : Heap}
theorem cal_Lcell {f : Addr} {fd : FuncData} (T : Blt mg) (F : C8.Def K mg "_law_cell" s_Lcell f fd) (b : Binds K fd ["_law_script", "_law_k"] []) : C8.Cal P w K mg base 1 "_law_cell" (spF (RCell K)) [] := by
  refine calF F b sc_Lcell (fun vs H v h => ?_) (fun cdv A outer s H vs v E hr h => ?_)
  · obtain ⟨a, ns, k, rfl, _⟩ := h
    rfl
  · obtain ⟨a, ns, k, rfl, hS, hl, hk, rfl⟩ := h
    refine ⟨_, (pss_cons (ps_set (i := 2) sc_Lcell.nd rfl (Or.inl rfl) (pe_op op_add (pe_op op_mul pe_int (pv 1)) pe_int))
  (pss_cons (ps_if (pt_cmpR (op_neD hr.units) (pv 0) (pe_lst pa_nil) (nomark _))
    (pss_cons (ps_set (i := 2) sc_Lcell.nd rfl (Or.inl rfl) (pe_op op_add (pe_op op_add (pv 2) (pe_op op_mul (pe_ix ix_list (pv 0) (pe_op op_mod (pv 1) (pe_callB call_len_seq (by rfl) T.b_len boot_len (pa_cons (pv 0) pa_nil))) (fun _ _ => rfl)) pe_int)) (pe_op op_mul pe_int (pv 1))))
    (pss_one (ps_set (i := 2) sc_Lcell.nd rfl (Or.inl rfl) (pe_op op_add (pv 2) (pe_op op_mul (pe_op op_fdiv (pv 1) (pe_callB call_len_seq (by rfl) T.b_len boot_len (pa_cons (pv 0) pa_nil))) pe_int)))))
    pss_nil)
  (pss_cons (ps_set (i := 3) sc_Lcell.nd rfl (Or.inl rfl) (pe_op op_mod (pv 2) pe_int))
  (pss_cons (ps_set (i := 3) sc_Lcell.nd rfl (Or.inl rfl) (pe_op op_mod (pe_op op_mul (pv 3) (pv 3)) pe_int))
  (pss_one (ps_ret (pe_op op_mod (pe_op op_add (pe_op op_add (pe_op op_mul (pv 3) (pv 3)) (pe_op op_mul pe_int (pv 3))) (pv 1)) pe_int))))))), ?_⟩
    have m1 : ∀ c : Int, 0 ≤ c % 2147483647 ∧ c % 2147483647 < 2147483647 := fun c => ⟨Int.emod_nonneg _ (by decide), Int.emod_lt_of_pos _ (by decide)⟩
    have m2 : ∀ c : Int, 0 ≤ c % 2147483629 ∧ c % 2147483629 < 2147483629 := fun c => ⟨Int.emod_nonneg _ (by decide), Int.emod_lt_of_pos _ (by decide)⟩
    refine rt_seq (nx_asg (v := .int (7919 * k + 11)) (by walk_at "tk_ev")) ?_
    refine rt_seq (σ' := [some (.ref a), some (.int k), some (.int (if ns = [] then 7919 * k + 11 else 7919 * k + 11 + ns.getD (k % (ns.length : Int)).toNat 0 * 48271 + 96810 * k + k / (ns.length : Int) * 7919)), none]) (nx_if (et_test (ev_neNil (ev_var rfl) hS)) (fun hb => ?_) (fun hb => ?_)) ?_
    · have hne : ns ≠ [] := by simpa using hb
      rw [if_neg hne]
      have hp : 0 < (ns.length : Int) := by
        have := List.length_pos_iff.mpr hne
        omega
      have q0 : 0 ≤ k % (ns.length : Int) := Int.emod_nonneg _ (by omega)
      have q1 : k % (ns.length : Int) < (ns.length : Int) := Int.emod_lt_of_pos _ hp
      refine nx_seq (nx_asg (v := .int (7919 * k + 11 + ns.getD (k % (ns.length : Int)).toNat 0 * 48271 + 96810 * k)) ?_) (nx_asg (v := .int (7919 * k + 11 + ns.getD (k % (ns.length : Int)).toNat 0 * 48271 + 96810 * k + k / (ns.length : Int) * 7919)) ?_)
      · walk_at "tk_ev"
      · walk_at "tk_ev"
    · have hne : ns = [] := by simpa using hb
      rw [if_pos hne]
      exact nx_next
    · unfold cellV
      generalize (if ns = [] then 7919 * k + 11 else 7919 * k + 11 + ns.getD (k % (ns.length : Int)).toNat 0 * 48271 + 96810 * k + k / (ns.length : Int) * 7919) = c at *
      have c1 := m1 c
      have c2 := m2 (c % 2147483647 * (c % 2147483647))
      walk_at "tk_ev"
end
/-! the law's draws: a scale, a bound, a gap, a cost -/
inductive Bd
  | jar (size flow : Int)
  | win (most span : Int)
def Bd.cap : Bd → Int
  | .jar s _ => s
  | .win m _ => m
def Bd.two : Bd → Int
  | .jar _ f => f
  | .win _ s => s
def Bd.tup : Bd → List V
  | .jar s f => [.str "jar", .int s, .int f]
  | .win m s => [.str "window", .int m, .int s]
def scaleV (c : Int) : Int := ([1, 1, 1000, 1000000, 40000000] : List Int).getD (c % 5).toNat 0
def boundV (c sc : Int) : Bd :=
  if c % 2 = 0 then .jar ((1 + c / 24 % 20) * sc) (min (([0, 1, 2, 3, 1, 2] : List Int).getD (c / 2 % 6).toNat 0 * ([1, sc] : List Int).getD (c / 12 % 2).toNat 0) 1000000000)
  else .win ((1 + c / 2 % 20) * sc + c / 40 % 2) (1 + c / 80 % ([6, 40] : List Int).getD (c / 3200 % 2).toNat 0)
def gapV (c : Int) : Int := ([0, 0, 1, 1, 2, 3, c / 10 % 9, c / 10 % 60, 0, c / 10 % 1000000] : List Int).getD (c % 10).toNat 0
def costV (c sc : Int) : Int := min 1000000000 (([1 + c % 6, 1, 1 + c / 3 % 20] : List Int).getD (c / 60 % 3).toNat 0 * sc + c / 180 % 2 * (sc / 2))
theorem scale_in (c : Int) : 1 ≤ scaleV c ∧ scaleV c ≤ 40000000 := getD_in _ _ (by decide) (by simp only [List.length_cons, List.length_nil]; omega)
theorem gap_in (c : Int) (h : 0 ≤ c) : 0 ≤ gapV c ∧ gapV c ≤ 1000000 := getD_in _ _ (by
  intro x hx
  simp only [List.mem_cons, List.not_mem_nil, or_false] at hx
  omega) (by simp only [List.length_cons, List.length_nil]; omega)
theorem cost_in {c sc : Int} (h : 0 ≤ c) (h1 : 1 ≤ sc) (h2 : sc ≤ 40000000) : 1 ≤ costV c sc ∧ costV c sc ≤ 1000000000 := by
  have z : 1 ≤ ([1 + c % 6, 1, 1 + c / 3 % 20] : List Int).getD (c / 60 % 3).toNat 0 ∧ ([1 + c % 6, 1, 1 + c / 3 % 20] : List Int).getD (c / 60 % 3).toNat 0 ≤ 20 := getD_in _ _ (by
    intro x hx
    simp only [List.mem_cons, List.not_mem_nil, or_false] at hx
    omega) (by simp only [List.length_cons, List.length_nil]; omega)
  unfold costV
  generalize ([1 + c % 6, 1, 1 + c / 3 % 20] : List Int).getD (c / 60 % 3).toNat 0 = m at z ⊢
  have a : 1 ≤ m * sc := by
    have := Int.mul_le_mul z.1 h1 (by decide) (by omega)
    omega
  have b : 0 ≤ c / 180 % 2 * (sc / 2) := Int.mul_nonneg (by omega) (by omega)
  omega
theorem bound_in {c sc : Int} (h : 0 ≤ c) (h1 : 1 ≤ sc) (h2 : sc ≤ 40000000) : 1 ≤ (boundV c sc).cap ∧ (boundV c sc).cap ≤ 1000000000 ∧ 0 ≤ (boundV c sc).two ∧ (boundV c sc).two ≤ 1000000000 ∧ (∀ m s, boundV c sc = .win m s → 1 ≤ s) := by
  have k : ∀ x : Int, 1 ≤ x → x ≤ 20 → 1 ≤ x * sc ∧ x * sc ≤ 800000000 := fun x a b => by
    have u := Int.mul_le_mul a h1 (by decide) (by omega)
    have w := Int.mul_le_mul b h2 (by omega) (by decide)
    omega
  unfold boundV
  by_cases hc : c % 2 = 0
  · rw [if_pos hc]
    have a := k (1 + c / 24 % 20) (by omega) (by omega)
    have d1 : 0 ≤ ([0, 1, 2, 3, 1, 2] : List Int).getD (c / 2 % 6).toNat 0 ∧ ([0, 1, 2, 3, 1, 2] : List Int).getD (c / 2 % 6).toNat 0 ≤ 3 := getD_in _ _ (by decide) (by simp only [List.length_cons, List.length_nil]; omega)
    have d2 : 1 ≤ ([1, sc] : List Int).getD (c / 12 % 2).toNat 0 ∧ ([1, sc] : List Int).getD (c / 12 % 2).toNat 0 ≤ 40000000 := getD_in _ _ (by
      intro x hx
      simp only [List.mem_cons, List.not_mem_nil, or_false] at hx
      omega) (by simp only [List.length_cons, List.length_nil]; omega)
    have d3 := Int.mul_nonneg d1.1 (show 0 ≤ ([1, sc] : List Int).getD (c / 12 % 2).toNat 0 by omega)
    exact ⟨a.1, Int.le_trans a.2 (by decide), by show 0 ≤ min _ _; omega, by show min _ _ ≤ _; omega, fun m s e => by cases e⟩
  · rw [if_neg hc]
    have a := k (1 + c / 2 % 20) (by omega) (by omega)
    have d1 : 6 ≤ ([6, 40] : List Int).getD (c / 3200 % 2).toNat 0 ∧ ([6, 40] : List Int).getD (c / 3200 % 2).toNat 0 ≤ 40 := getD_in _ _ (by decide) (by simp only [List.length_cons, List.length_nil]; omega)
    generalize ([6, 40] : List Int).getD (c / 3200 % 2).toNat 0 = q at d1 ⊢
    have e0 := Int.emod_nonneg (c / 80) (show q ≠ 0 by omega)
    have e1 := Int.emod_lt_of_pos (c / 80) (show 0 < q by omega)
    exact ⟨by show 1 ≤ (1 + c / 2 % 20) * sc + c / 40 % 2; omega, by show (1 + c / 2 % 20) * sc + c / 40 % 2 ≤ _; omega, by show 0 ≤ 1 + c / 80 % q; omega, by show 1 + c / 80 % q ≤ _; omega, fun m s e => by cases e; omega⟩
/-- of one number, of two -/
def R1 (D : Int → Prop) (f : Int → Int) (vs : List V) (_ : Hp) (v : V) : Prop := ∃ c, vs = [.int c] ∧ D c ∧ v = .int (f c)
def R2' (D : Int → Int → Prop) (f : Int → Int → Int) (vs : List V) (_ : Hp) (v : V) : Prop := ∃ c d, vs = [.int c, .int d] ∧ D c d ∧ v = .int (f c d)
def RBound (vs : List V) (_ : Hp) (W : V → Hp → Prop) : Prop := ∃ c sc, vs = [.int c, .int sc] ∧ 0 ≤ c ∧ 1 ≤ sc ∧ sc ≤ 40000000 ∧ W = fun v H1 => ∃ p, v = .ref p ∧ H1 p = some (.tup (boundV c sc).tup)
section
variable {P : Program} {w : World} {K : PySem.W.Frag} {mg : Str → Option Value} {base : Heap}
theorem cal_Lscale {f : Addr} {fd : FuncData} (F : C8.Def K mg "_law_scale" s_Lscale f fd) (b : Binds K fd ["_law_cell_here"] []) : C8.Cal P w K mg base 1 "_law_scale" (spF (R1 (fun c => 0 ≤ c) scaleV)) [] := by
  refine calF F b sc_Lscale (fun vs H v h => ?_) (fun cdv A outer s H vs v E hr h => ?_)
  · obtain ⟨c, rfl, _⟩ := h
    rfl
  · obtain ⟨c, rfl, hc, rfl⟩ := h
    refine ⟨_, (pss_one (ps_ret (pe_ix ix_list (pe_lst (pa_cons pe_int (pa_cons pe_int (pa_cons pe_int (pa_cons (pe_op op_pow pe_int pe_int) (pa_cons (pe_op op_mul pe_int (pe_op op_pow pe_int pe_int)) pa_nil)))))) (pe_op op_mod (pv 0) pe_int) (fun _ _ => rfl)))), ?_⟩
    unfold scaleV
    walk_at "tk_ev"
theorem cal_Lgap {f : Addr} {fd : FuncData} (F : C8.Def K mg "_law_gap" s_Lgap f fd) (b : Binds K fd ["_law_cell_here"] []) : C8.Cal P w K mg base 1 "_law_gap" (spF (R1 (fun c => 0 ≤ c) gapV)) [] := by
  refine calF F b sc_Lgap (fun vs H v h => ?_) (fun cdv A outer s H vs v E hr h => ?_)
  · obtain ⟨c, rfl, _⟩ := h
    rfl
  · obtain ⟨c, rfl, hc, rfl⟩ := h
    refine ⟨_, (pss_one (ps_ret (pe_ix ix_list (pe_lst (pa_cons pe_int (pa_cons pe_int (pa_cons pe_int (pa_cons pe_int (pa_cons pe_int (pa_cons pe_int (pa_cons (pe_op op_mod (pe_op op_fdiv (pv 0) pe_int) pe_int) (pa_cons (pe_op op_mod (pe_op op_fdiv (pv 0) pe_int) pe_int) (pa_cons pe_int (pa_cons (pe_op op_mod (pe_op op_fdiv (pv 0) pe_int) (pe_op op_pow pe_int pe_int)) pa_nil))))))))))) (pe_op op_mod (pv 0) pe_int) (fun _ _ => rfl)))), ?_⟩
    unfold gapV
    walk_at "tk_ev"
theorem cal_Lcost {f : Addr} {fd : FuncData} (T : Blt mg) (F : C8.Def K mg "_law_cost" s_Lcost f fd) (b : Binds K fd ["_law_cell_here", "_law_scale_here"] []) : C8.Cal P w K mg base 1 "_law_cost" (spF (R2' (fun c sc => 0 ≤ c ∧ 1 ≤ sc ∧ sc ≤ 40000000) costV)) [] := by
  refine calF F b sc_Lcost (fun vs H v h => ?_) (fun cdv A outer s H vs v E hr h => ?_)
  · obtain ⟨c, d, rfl, _⟩ := h
    rfl
  · obtain ⟨c, sc, rfl, hc, rfl⟩ := h
    refine ⟨_, (pss_cons (ps_set (i := 2) sc_Lcost.nd rfl (Or.inl rfl) (pe_ix ix_list (pe_lst (pa_cons (pe_op op_add pe_int (pe_op op_mod (pv 0) pe_int)) (pa_cons pe_int (pa_cons (pe_op op_add pe_int (pe_op op_mod (pe_op op_fdiv (pv 0) pe_int) pe_int)) pa_nil)))) (pe_op op_mod (pe_op op_fdiv (pv 0) pe_int) pe_int) (fun _ _ => rfl)))
  (pss_one (ps_ret (pe_callB (call_min2 rfl) (by rfl) T.b_min boot_min (pa_cons (pe_op op_pow pe_int pe_int) (pa_cons (pe_op op_add (pe_op op_mul (pv 2) (pv 1)) (pe_op op_mul (pe_op op_mod (pe_op op_fdiv (pv 0) pe_int) pe_int) (pe_op op_fdiv (pv 1) pe_int))) pa_nil)))))), ?_⟩
    unfold costV
    walk_at "tk_ev"
theorem cal_Lbound {f : Addr} {fd : FuncData} (T : Blt mg) (F : C8.Def K mg "_law_bound" s_Lbound f fd) (b : Binds K fd ["_law_cell_here", "_law_scale_here"] []) : C8.Cal P w K mg base 1 "_law_bound" (spW RBound) [] := by
  refine calW F b sc_Lbound (fun vs H v h => ?_) (fun cdv A outer s H vs W E hr h => ?_)
  · obtain ⟨c, d, rfl, _⟩ := h
    rfl
  · obtain ⟨c, sc, rfl, hc, h1, h2, rfl⟩ := h
    refine ⟨_, (pss_cons (ps_if (pt_cmpR op_eq (pe_op op_mod (pv 0) pe_int) pe_int (nomark _))
    (pss_cons (ps_set (i := 2) sc_Lbound.nd rfl (Or.inl rfl) (pe_op op_mul (pe_ix ix_list (pe_lst (pa_cons pe_int (pa_cons pe_int (pa_cons pe_int (pa_cons pe_int (pa_cons pe_int (pa_cons pe_int pa_nil))))))) (pe_op op_mod (pe_op op_fdiv (pv 0) pe_int) pe_int) (fun _ _ => rfl)) (pe_ix ix_list (pe_lst (pa_cons pe_int (pa_cons (pv 1) pa_nil))) (pe_op op_mod (pe_op op_fdiv (pv 0) pe_int) pe_int) (fun _ _ => rfl))))
    (pss_one (ps_ret (pe_tup (pa_cons pe_str (pa_cons (pe_op op_mul (pe_op op_add pe_int (pe_op op_mod (pe_op op_fdiv (pv 0) pe_int) pe_int)) (pv 1)) (pa_cons (pe_callB (call_min2 rfl) (by rfl) T.b_min boot_min (pa_cons (pv 2) (pa_cons (pe_op op_pow pe_int pe_int) pa_nil))) pa_nil)))))))
    pss_nil)
  (pss_one (ps_ret (pe_tup (pa_cons pe_str (pa_cons (pe_op op_add (pe_op op_mul (pe_op op_add pe_int (pe_op op_mod (pe_op op_fdiv (pv 0) pe_int) pe_int)) (pv 1)) (pe_op op_mod (pe_op op_fdiv (pv 0) pe_int) pe_int)) (pa_cons (pe_op op_add pe_int (pe_op op_mod (pe_op op_fdiv (pv 0) pe_int) (pe_ix ix_list (pe_lst (pa_cons pe_int (pa_cons pe_int pa_nil))) (pe_op op_mod (pe_op op_fdiv (pv 0) pe_int) pe_int) (fun _ _ => rfl)))) pa_nil))))))), ?_⟩
    have d2 : 1 ≤ ([1, sc] : List Int).getD (c / 12 % 2).toNat 0 ∧ ([1, sc] : List Int).getD (c / 12 % 2).toNat 0 ≤ 40000000 := getD_in _ _ (by
      intro x hx
      simp only [List.mem_cons, List.not_mem_nil, or_false] at hx
      omega) (by simp only [List.length_cons, List.length_nil]; omega)
    have d1 : 6 ≤ ([6, 40] : List Int).getD (c / 3200 % 2).toNat 0 ∧ ([6, 40] : List Int).getD (c / 3200 % 2).toNat 0 ≤ 40 := getD_in _ _ (by decide) (by simp only [List.length_cons, List.length_nil]; omega)
    apply rtw_ifseq
    · walk_at "tk_ev"
    · intro hb
      have hc2 : c % 2 = 0 := by simpa using hb
      simp only [boundV, if_pos hc2, Bd.tup]
      walk_at "tk_ev"
      apply evw_tup
      walk_at "tk_ev"
    · intro hb
      have hc2 : ¬ c % 2 = 0 := by simpa using hb
      simp only [boundV, if_neg hc2, Bd.tup]
      walk_at "tk_ev"
      apply evw_tup
      walk_at "tk_ev"
end
/-! what counts as a number within limits; the bounds -/
structure Cst (mg : Str → Option Value) : Prop where
  g_LARGEST_SIZE : ∃ u, mg "LARGEST_SIZE" = some u ∧ RelV (.int 1000000000000000) u
  g_LARGEST_FLOW : ∃ u, mg "LARGEST_FLOW" = some u ∧ RelV (.int 1000000000) u
  g_LARGEST_MOST : ∃ u, mg "LARGEST_MOST" = some u ∧ RelV (.int 1000000000000000) u
  g_LARGEST_SPAN : ∃ u, mg "LARGEST_SPAN" = some u ∧ RelV (.int 1000000000000) u
/-- no number: None, a truth, or of a type beside int -/
def NoInt (K : PySem.W.Frag) (H : Hp) (x : V) : Prop := (∃ b, x = .bl b) ∨ ∃ n : String, (∀ H1, Ex H H1 → TyX K H1 x (.type n)) ∧ kitB n "int" = some false
theorem NoInt.mono {K : PySem.W.Frag} {H H' : Hp} {x : V} (e : Ex H H') (h : NoInt K H x) : NoInt K H' x := h.imp id fun ⟨n, h1, h2⟩ => ⟨n, fun H1 e1 => h1 H1 (e.trans e1), h2⟩
def RWithin (K : PySem.W.Frag) (vs : List V) (H : Hp) (v : V) : Prop := ∃ x lo hi, vs = [x, .int lo, .int hi] ∧ ((∃ i, x = .int i ∧ v = .bl (decide (lo ≤ i) && decide (i ≤ hi))) ∨ (NoInt K H x ∧ v = .bl false))
structure ClJar (K : PySem.W.Frag) (C : Addr) : Prop where
  cl : Cls K C
  n1 : NoAttr K C "_size"
  n2 : NoAttr K C "_flow"
structure ClWin (K : PySem.W.Frag) (C : Addr) : Prop where
  cl : Cls K C
  n1 : NoAttr K C "_most"
  n2 : NoAttr K C "_span"
def fJar (s f : Int) : List (Str × V) := [("_size", .int s), ("_flow", .int f)]
def fWin (m s : Int) : List (Str × V) := [("_most", .int m), ("_span", .int s)]
def DJar (as : List V) : Prop := ∃ s f : Int, as = [.int s, .int f] ∧ 1 ≤ s ∧ s ≤ 1000000000000000 ∧ 0 ≤ f ∧ f ≤ 1000000000
def DWin (as : List V) : Prop := ∃ m s : Int, as = [.int m, .int s] ∧ 1 ≤ m ∧ m ≤ 1000000000000000 ∧ 1 ≤ s ∧ s ≤ 1000000000000
def JJar (C : Addr) (as : List V) (x dx : Addr) (H : Hp) : Prop := ∃ s f, as = [.int s, .int f] ∧ H x = some (.ins C dx (fJar s f))
def JWin (C : Addr) (as : List V) (x dx : Addr) (H : Hp) : Prop := ∃ m s, as = [.int m, .int s] ∧ H x = some (.ins C dx (fWin m s))
theorem tyi {K : PySem.W.Frag} {H : Hp} (i : Int) : ∀ H1, Ex H H1 → TyX K H1 (.int i) (.type "int") := fun _ _ => .base (.int i)
theorem tyb {K : PySem.W.Frag} {H : Hp} (b : Bool) : ∀ H1, Ex H H1 → TyX K H1 (.bl b) (.type "bool") := fun _ _ => .base (.bl b)
theorem kii {K : PySem.W.Frag} : PySem.W.kitOne K (.type "int") (.type "int") = some true := kit_ty (by decide +kernel)
theorem kib {K : PySem.W.Frag} : PySem.W.kitOne K (.type "int") (.type "bool") = some false := kit_ty (by decide +kernel)
theorem kbi {K : PySem.W.Frag} : PySem.W.kitOne K (.type "bool") (.type "int") = some true := kit_ty (by decide +kernel)
theorem kbb {K : PySem.W.Frag} : PySem.W.kitOne K (.type "bool") (.type "bool") = some true := kit_ty (by decide +kernel)
section
variable {P : Program} {w : World} {K : PySem.W.Frag} {mg : Str → Option Value} {base : Heap} {C : Addr}
theorem cal_is_within {f : Addr} {fd : FuncData} (T : Blt mg) (F : C8.Def K mg "is_within" s_is_within f fd) (b : Binds K fd ["value", "least", "largest"] []) : C8.Cal P w K mg base 1 "is_within" (spF (RWithin K)) [] := by
  refine calF F b sc_is_within (fun vs H v h => ?_) (fun cdv A outer s H vs v E hr h => ?_)
  · obtain ⟨x, lo, hi, rfl, _⟩ := h
    rfl
  · obtain ⟨x, lo, hi, rfl, h⟩ := h
    refine ⟨_, (pss_one (ps_ret (pe_and (pe_callB call_isi (by rfl) T.b_isinstance boot_isinstance (pa_cons (pv 0) (pa_cons (pe_bltn (v := .ty "int") (by rfl) T.b_int boot_int rfl) pa_nil))) (pe_and (pe_not (pe_callB call_isi (by rfl) T.b_isinstance boot_isinstance (pa_cons (pv 0) (pa_cons (pe_bltn (v := .ty "bool") (by rfl) T.b_bool boot_bool rfl) pa_nil)))) (pe_one (pe_chain op_le op_le (pv 1) (pv 0) (pv 2))))))), ?_⟩
    rcases h with ⟨i, rfl, rfl⟩ | ⟨h, rfl⟩
    · refine rt_ret (ev_is (ev_andV (a := true) (b := decide (lo ≤ i) && decide (i ≤ hi)) (ev_isi (ev_var rfl) ev_c (.ty "int") (tyi i) kii) fun _ => ev_is (ev_andV (a := true) (b := decide (lo ≤ i) && decide (i ≤ hi)) (ev_notV (a := false) (ev_isi (ev_var rfl) ev_c (.ty "bool") (tyi i) kib)) fun _ => ev_chain (ev_var rfl) (ev_var rfl) rv_I0 (fun _ => ev_var rfl) fun _ => rv_I0) (by rw [Bool.true_and])) (by rw [Bool.true_and]))
    · rcases h with ⟨q, rfl⟩ | ⟨n, hn, hk⟩
      · refine rt_ret (ev_is (ev_andV (a := true) (b := false) (ev_isi (ev_var rfl) ev_c (.ty "int") (tyb q) kbi) fun _ => ev_is (ev_andV (a := false) (b := false) (ev_notV (a := true) (ev_isi (ev_var rfl) ev_c (.ty "bool") (tyb q) kbb)) fun z => by cases z) rfl) rfl)
      · refine rt_ret (ev_andV (a := false) (b := false) (ev_isi (ev_var rfl) ev_c (.ty "int") hn (kit_ty hk)) fun z => by cases z)
theorem rWithin {H : Hp} {i lo hi : Int} {b : Bool} (h : (decide (lo ≤ i) && decide (i ≤ hi)) = b) : ∀ H1, Ex H H1 → RWithin K [.int i, .int lo, .int hi] H1 (.bl b) := fun H1 _ => ⟨.int i, lo, hi, rfl, .inl ⟨i, rfl, by rw [h]⟩⟩
end
section
variable {P : Program} {w : World} {K : PySem.W.Frag} {mg : Str → Option Value} {base : Heap} {C : Addr}
theorem mak_Jar {f : Addr} {fd : FuncData} (G : Cst mg) (k : ClJar K C) (c_is_within : C8.Cal P w K mg base 1 "is_within" (spF (RWithin K)) []) (M : Mk K C f) (hm : mg "Jar" = some (.ref C)) (F : C8.Fun K "__init__" "Jar.__init__" s_Jar_init f fd) (b : Binds K fd ["self", "size", "flow"] []) : C8.Mak P w K mg base 2 "Jar" C (spI C DJar (JJar C)) [] := by
  obtain ⟨cl, n1, n2⟩ := k
  refine C8.mak0 M hm F b .nil sc_Jar_init (fun vs H Q E h => ?_) (fun cdv A outer s H vs Q E hr h => ?_)
  · obtain ⟨x, dx, as, rfl, _, ⟨s, f, rfl, _⟩, _⟩ := h
    rfl
  · obtain ⟨x, dx, as, rfl, hx, ⟨s, f, rfl, h1, h2, h3, h4⟩, q⟩ := h
    refine ⟨_, (pss_cons (ps_if (pt_not (pt_val (C8.pe_c c_is_within hr (by decide) rfl (pa_cons (pv 1) (pa_cons pe_int (pa_cons (C8.pe_gc rfl G.g_LARGEST_SIZE) pa_nil))))))
    (pss_one ps_never)
    pss_nil)
  (pss_cons (ps_if (pt_not (pt_val (C8.pe_c c_is_within hr (by decide) rfl (pa_cons (pv 2) (pa_cons pe_int (pa_cons (C8.pe_gc rfl G.g_LARGEST_FLOW) pa_nil))))))
    (pss_one ps_never)
    pss_nil)
  (pss_cons (ps_fld (pv 0) (pv 1) rfl)
  (pss_one (ps_fld (pv 0) (pv 2) rfl))))), ?_⟩
    refine Nx.go (nx_if (b := false) (et_not (a := true) (et_B (ev_callF (ea_cons (ev_var rfl) (ea_cons ev_c (ea_cons ev_c ea_nil))) (rWithin (by simp only [decide_eq_true h1, decide_eq_true h2, Bool.and_self]))))) (fun z => by cases z) fun _ => nx_next) fun H1 e1 => ?_
    refine Nx.go (nx_if (b := false) (et_not (a := true) (et_B (ev_callF (ea_cons (ev_var rfl) (ea_cons ev_c (ea_cons ev_c ea_nil))) (rWithin (by simp only [decide_eq_true h3, decide_eq_true h4, Bool.and_self]))))) (fun z => by cases z) fun _ => nx_next) fun H2 e2 => ?_
    replace hx := e2 _ _ (e1 _ _ hx)
    refine ⟨_, rfl, _, rfl, x, C, dx, _, rfl, hx, cl, n1, by show 0 < 1000; decide, ?_⟩
    refine ⟨_, rfl, _, rfl, x, C, dx, _, rfl, upd_same, cl, n2, by show 1 < 1000; decide, ?_⟩
    refine q _ (fun b o hb e => ?_) ⟨s, f, rfl, upd_same⟩
    rw [upd_ne hb, upd_ne hb]
    exact e2 _ _ (e1 _ _ e)
theorem mak_Window {f : Addr} {fd : FuncData} (G : Cst mg) (k : ClWin K C) (c_is_within : C8.Cal P w K mg base 1 "is_within" (spF (RWithin K)) []) (M : Mk K C f) (hm : mg "Window" = some (.ref C)) (F : C8.Fun K "__init__" "Window.__init__" s_Window_init f fd) (b : Binds K fd ["self", "most", "span"] []) : C8.Mak P w K mg base 2 "Window" C (spI C DWin (JWin C)) [] := by
  obtain ⟨cl, n1, n2⟩ := k
  refine C8.mak0 M hm F b .nil sc_Window_init (fun vs H Q E h => ?_) (fun cdv A outer s H vs Q E hr h => ?_)
  · obtain ⟨x, dx, as, rfl, _, ⟨s, f, rfl, _⟩, _⟩ := h
    rfl
  · obtain ⟨x, dx, as, rfl, hx, ⟨s, f, rfl, h1, h2, h3, h4⟩, q⟩ := h
    refine ⟨_, (pss_cons (ps_if (pt_not (pt_val (C8.pe_c c_is_within hr (by decide) rfl (pa_cons (pv 1) (pa_cons pe_int (pa_cons (C8.pe_gc rfl G.g_LARGEST_MOST) pa_nil))))))
    (pss_one ps_never)
    pss_nil)
  (pss_cons (ps_if (pt_not (pt_val (C8.pe_c c_is_within hr (by decide) rfl (pa_cons (pv 2) (pa_cons pe_int (pa_cons (C8.pe_gc rfl G.g_LARGEST_SPAN) pa_nil))))))
    (pss_one ps_never)
    pss_nil)
  (pss_cons (ps_fld (pv 0) (pv 1) rfl)
  (pss_one (ps_fld (pv 0) (pv 2) rfl))))), ?_⟩
    refine Nx.go (nx_if (b := false) (et_not (a := true) (et_B (ev_callF (ea_cons (ev_var rfl) (ea_cons ev_c (ea_cons ev_c ea_nil))) (rWithin (by simp only [decide_eq_true h1, decide_eq_true h2, Bool.and_self]))))) (fun z => by cases z) fun _ => nx_next) fun H1 e1 => ?_
    refine Nx.go (nx_if (b := false) (et_not (a := true) (et_B (ev_callF (ea_cons (ev_var rfl) (ea_cons ev_c (ea_cons ev_c ea_nil))) (rWithin (by simp only [decide_eq_true h3, decide_eq_true h4, Bool.and_self]))))) (fun z => by cases z) fun _ => nx_next) fun H2 e2 => ?_
    replace hx := e2 _ _ (e1 _ _ hx)
    refine ⟨_, rfl, _, rfl, x, C, dx, _, rfl, hx, cl, n1, by show 0 < 1000; decide, ?_⟩
    refine ⟨_, rfl, _, rfl, x, C, dx, _, rfl, upd_same, cl, n2, by show 1 < 1000; decide, ?_⟩
    refine q _ (fun b o hb e => ?_) ⟨s, f, rfl, upd_same⟩
    rw [upd_ne hb, upd_ne hb]
    exact e2 _ _ (e1 _ _ e)
end
/-! bounds, made of the law's tuples -/
def BdAt (cJ cW : Addr) (bd : Bd) (y : Addr) (H : Hp) : Prop := match bd with
  | .jar s f => ∃ dy, H y = some (.ins cJ dy (fJar s f))
  | .win m s => ∃ dy, H y = some (.ins cW dy (fWin m s))
def Bd.ok : Bd → Prop
  | .jar s f => 1 ≤ s ∧ s ≤ 1000000000000000 ∧ 0 ≤ f ∧ f ≤ 1000000000
  | .win m s => 1 ≤ m ∧ m ≤ 1000000000000000 ∧ 1 ≤ s ∧ s ≤ 1000000000000
def RMade (cJ cW : Addr) (vs : List V) (H : Hp) (W : V → Hp → Prop) : Prop := ∃ p bd, vs = [.ref p] ∧ H p = some (.tup (Bd.tup bd)) ∧ bd.ok ∧ W = fun v H2 => ∃ y, v = .ref y ∧ BdAt cJ cW bd y H2
theorem EvW.imp {te : TE} {σ : L2.St} {H : Hp} {W W' : V → Hp → Prop} (h : EvW te σ H W) (k : ∀ v H1, Ex H H1 → W v H1 → W' v H1) : EvW te σ H W' := fun H1 e Q q => h H1 e Q fun v H2 e2 w => q v H2 e2 (k v H2 (e.trans e2) w)
theorem dj : decide (V.str "jar" = V.str "jar") = true := by decide +kernel
theorem dw : decide (V.str "window" = V.str "jar") = false := by decide +kernel
section
variable {P : Program} {w : World} {K : PySem.W.Frag} {mg : Str → Option Value} {base : Heap} {cJ cW : Addr}
theorem cal_Lmade {f : Addr} {fd : FuncData} (m_Jar : C8.Mak P w K mg base 2 "Jar" cJ (spI cJ DJar (JJar cJ)) []) (m_Window : C8.Mak P w K mg base 2 "Window" cW (spI cW DWin (JWin cW)) []) (F : C8.Def K mg "_law_made" s_Lmade f fd) (b : Binds K fd ["_law_bound_here"] []) : C8.Cal P w K mg base 4 "_law_made" (spW (RMade cJ cW)) [] := by
  refine calW F b sc_Lmade (fun vs H v h => ?_) (fun cdv A outer s H vs W E hr h => ?_)
  · obtain ⟨p, bd, rfl, _⟩ := h
    rfl
  · obtain ⟨p, bd, rfl, hp, ok, rfl⟩ := h
    refine ⟨_, (pss_cons (ps_if (pt_cmpR op_eq (pe_ix ix_tup (pv 0) pe_int (fun _ _ => rfl)) pe_str (nomark _))
    (pss_one (ps_ret (C8.pe_mk m_Jar hr (by decide) rfl (pa_cons (pe_ix ix_tup (pv 0) pe_int (fun _ _ => rfl)) (pa_cons (pe_ix ix_tup (pv 0) pe_int (fun _ _ => rfl)) pa_nil)))))
    pss_nil)
  (pss_one (ps_ret (C8.pe_mk m_Window hr (by decide) rfl (pa_cons (pe_ix ix_tup (pv 0) pe_int (fun _ _ => rfl)) (pa_cons (pe_ix ix_tup (pv 0) pe_int (fun _ _ => rfl)) pa_nil)))))), ?_⟩
    have hT : SqT K H p bd.tup := st_of hp
    cases bd with
    | jar s f =>
      have e1 : atI (Bd.tup (.jar s f)) 1 = some (.int s) := rfl
      have e2 : atI (Bd.tup (.jar s f)) 2 = some (.int f) := rfl
      refine rtw_ifseq (b := true) (et_is (et_test (ev_op (ev_ixT (v := .str "jar") (ev_var rfl) ev_c hT rfl) ev_c (rv_eq rfl))) dj) (fun _ => ?_) fun z => by cases z
      refine rtw_ret (EvW.imp (evw_make (vs := [.int s, .int f]) (ea_cons (ev_ixT (ev_var rfl) ev_c hT e1) (ea_cons (ev_ixT (ev_var rfl) ev_c hT e2) ea_nil)) ⟨s, f, rfl, ok⟩) fun v H1 _ ⟨y, dy, w1, s', f', w2, w3⟩ => ?_)
      cases w2
      exact ⟨y, w1, dy, w3⟩
    | win s f =>
      have e1 : atI (Bd.tup (.win s f)) 1 = some (.int s) := rfl
      have e2 : atI (Bd.tup (.win s f)) 2 = some (.int f) := rfl
      refine rtw_ifseq (b := false) (et_is (et_test (ev_op (ev_ixT (v := .str "window") (ev_var rfl) ev_c hT rfl) ev_c (rv_eq rfl))) dw) (fun z => by cases z) fun _ => ?_
      refine rtw_ret (EvW.imp (evw_make (vs := [.int s, .int f]) (ea_cons (ev_ixT (ev_var rfl) ev_c hT e1) (ea_cons (ev_ixT (ev_var rfl) ev_c hT e2) ea_nil)) ⟨s, f, rfl, ok⟩) fun v H1 _ ⟨y, dy, w1, s', f', w2, w3⟩ => ?_)
      cases w2
      exact ⟨y, w1, dy, w3⟩
end
/-! rooms and fields -/
def tPropF (C : Addr) (R : List V → Hp → V → Prop) (ta : TE) : TE := tProp C (spF R) [] C8.E0 ta
structure Prp (P : Program) (w : World) (K : PySem.W.Frag) (mg : Str → Option Value) (base : Heap) (k : Nat) (C : Addr) (f : Str) (sp : Sp) : Prop where
  ex : ∃ (p g : Addr) (fd : FuncData) (ps : List Str), Cls K C ∧ PropOf K C f p g ∧ FnOk P w K mg base C8.CX0 k g fd ps sp ∧ Binds K fd ps []
theorem pe_pr {X : Cx} {k j : Nat} {C : Addr} {f : Str} {sp : Sp} {e : Expr} {pos : Pos} {ta : TE} (c : Prp X.prog X.w X.K X.mg X.base k C f sp) (hr : Room j X.A) (hk : k + 1 ≤ j) (he : PE X e ta) (hab : attributeBase e f X.env (eval e X.env) = eval e X.env := by rfl) : PE X (.Attribute e f pos) (tProp C sp [] C8.E0 ta) := by
  obtain ⟨p, g, fd, ps, h1, h2, F, h3⟩ := c.ex
  exact pe_prop he h1 h2 F (hr.mono hk) h3 .nil C8.pass0 hab
theorem ev_prop {R : List V → Hp → V → Prop} {ta : TE} {σ : L2.St} {H : Hp} {a C dx : Addr} {fs : List (Str × V)} {E : XK} {v : V} (ha : Ev ta σ H (.ref a)) (hx : H a = some (.ins C dx fs)) (hR : ∀ H1, Ex H H1 → R [.ref a] H1 v) : Ev (tProp C (spF R) [] E ta) σ H v := fun H1 e Q q =>
  ha H1 e _ fun H2 e2 => ⟨a, dx, fs, rfl, (e.trans e2) _ _ hx, v, fun H3 e3 => hR H3 ((e.trans e2).trans e3), fun H3 e3 => q H3 (e2.trans e3)⟩
def RGet (C : Addr) (f : Str) (vs : List V) (H : Hp) (v : V) : Prop := ∃ y dy fs, vs = [.ref y] ∧ H y = some (.ins C dy fs) ∧ fs.lookup f = some v
def RRoomJ (C : Addr) (vs : List V) (H : Hp) (v : V) : Prop := ∃ y dy s f a b, vs = [.ref y, .int a, .int b] ∧ H y = some (.ins C dy (fJar s f)) ∧ 0 ≤ f ∧ f ≤ 1000000000 ∧ v = opV (some (s + f * (b - a)))
def RRoomW (C : Addr) (vs : List V) (H : Hp) (v : V) : Prop := ∃ y dy m s a b, vs = [.ref y, .int a, .int b] ∧ H y = some (.ins C dy (fWin m s)) ∧ v = opV (if b - a < s then some m else none)
section
variable {P : Program} {w : World} {K : PySem.W.Frag} {mg : Str → Option Value} {base : Heap} {C : Addr}
theorem met_Jar_room {f : Addr} {fd : FuncData} (k : ClJar K C) (me : Meth K C "room" f) (F : C8.Fun K "room" "Jar.room" s_Jar_room f fd) (b : Binds K fd ["self", "first", "last"] []) : C8.Met P w K mg base 1 C "room" (spF (RRoomJ C)) [] := by
  obtain ⟨cl, n1, n2⟩ := k
  refine metF cl me F b sc_Jar_room (fun vs H v h => ?_) (fun cdv A outer s H vs v E hr h => ?_)
  · obtain ⟨y, dy, s, f, a, b, rfl, _⟩ := h
    rfl
  · obtain ⟨y, dy, s, f, a, b, rfl, hy, f0, f1, rfl⟩ := h
    refine ⟨_, (pss_one (ps_ret (pe_op op_add (pe_fld (pv 0) rfl) (pe_op op_mul (pe_fld (pv 0) rfl) (pe_op op_sub (pv 2) (pv 1)))))), ?_⟩
    show Rt _ _ _ (.int (s + f * (b - a)))
    walk_at "tk_ev"
theorem met_Window_room {f : Addr} {fd : FuncData} (k : ClWin K C) (me : Meth K C "room" f) (F : C8.Fun K "room" "Window.room" s_Window_room f fd) (b : Binds K fd ["self", "first", "last"] []) : C8.Met P w K mg base 1 C "room" (spF (RRoomW C)) [] := by
  obtain ⟨cl, n1, n2⟩ := k
  refine metF cl me F b sc_Window_room (fun vs H v h => ?_) (fun cdv A outer s H vs v E hr h => ?_)
  · obtain ⟨y, dy, m, s, a, b, rfl, _⟩ := h
    rfl
  · obtain ⟨y, dy, m, s, a, b, rfl, hy, rfl⟩ := h
    refine ⟨_, (pss_cons (ps_if (pt_cmpR op_lt (pe_op op_sub (pv 2) (pv 1)) (pe_fld (pv 0) rfl) (nomark _))
    (pss_one (ps_ret (pe_fld (pv 0) rfl)))
    pss_nil)
  (pss_one (ps_ret pe_non))), ?_⟩
    apply rt_ifseq
    · walk_at "tk_ev"
    · intro hb
      have h1 : b - a < s := by simpa using hb
      rw [if_pos h1]
      show Rt _ _ _ (.int m)
      walk_at "tk_ev"
    · intro hb
      have h1 : ¬ b - a < s := by simpa using hb
      rw [if_neg h1]
      walk_at "tk_ev"
end
/-! rooms, sums, what a stretch has beyond its room -/
def mom (vs : List (Int × Int)) (i : Nat) : Int := (vs.getD i (0, 0)).1
def cst (vs : List (Int × Int)) (i : Nat) : Int := (vs.getD i (0, 0)).2
def tot (vs : List (Int × Int)) : Nat → Int
  | 0 => 0
  | i + 1 => tot vs i + cst vs i
def roomB (bd : Bd) (a b : Int) : Option Int := match bd with
  | .jar s f => some (s + f * (b - a))
  | .win m s => if b - a < s then some m else none
def excB (bd : Bd) (vs : List (Int × Int)) (s e : Nat) : Option Int := (roomB bd (mom vs s) (mom vs e)).map fun r => tot vs (e + 1) - tot vs s - r
abbrev frE : List Str := ["bound", "moments", "totals"]
abbrev qE : Str := (("broken" : Str) ++ ".<locals>.") ++ "excess"
abbrev mkE (cl : List (Str × Addr)) (c' : Addr) : NdefX.NF := NdefX.NF.of s_broken_excess "excess" qE cl c'
def RExc (C : Addr) (RR : List V → Hp → V → Prop) (ws : List (Option V)) (as : List V) (H : Hp) (v : V) : Prop := ∃ (b dx mo to : Addr) (fs : List (Str × V)) (ms ts : List Int) (s e : Nat) (r : Option Int), ws = [some (.ref b), some (.ref mo), some (.ref to)] ∧ as = [.int s, .int e] ∧
  H b = some (.ins C dx fs) ∧ fs.lookup ("room" : Str) = none ∧ H mo = some (.lst (ms.map V.int)) ∧ H to = some (.lst (ts.map V.int)) ∧ s < ms.length ∧ e < ms.length ∧ s < ts.length ∧ e + 1 < ts.length ∧ (∀ H1, Ex H H1 → RR [.ref b, .int (ms.getD s 0), .int (ms.getD e 0)] H1 (opV r)) ∧
  v = opV (r.map fun z => ts.getD (e + 1) 0 - ts.getD s 0 - z)
theorem ev_ixI {K : PySem.W.Frag} {σ : L2.St} {H : Hp} {ta tb : TE} {p : Addr} {ns : List Int} {i : Nat} (ha : Ev ta σ H (.ref p)) (hb : Ev tb σ H (.int (i : Int))) (hx : H p = some (.lst (ns.map V.int))) (h : i < ns.length) : Ev (tOp (rIxL K) ta tb) σ H (.int (ns.getD i 0)) := by
  have z := atI_ints (ns := ns) (i := (i : Int)) (by omega) (by omega)
  rw [Int.toNat_natCast] at z
  exact ev_ixL ha hb (sq_of hx) z
section
variable {P : Program} {w : World} {K : PySem.W.Frag} {mg : Str → Option Value} {base : Heap} {C : Addr} {RR : List V → Hp → V → Prop}
theorem nok_excess (t_Jar_room : C8.Met P w K mg base 1 C "room" (spF RR) []) (cl : List (Str × Addr)) (f c' : Addr) : NdefX.NOk P w K mg base C8.CX0 2 f (mkE cl c') ["start", "end"] frE (fun ws => spF (RExc C RR ws)) := by
  refine NdefX.nok_of sc_broken_excess (fun doc pm ctv us hl => ?_) (fun ws vs H Q E ⟨v, h, _⟩ => ?_) (fun A outer s H vs ws Q E hr _ _ _ ⟨v, h, q⟩ => ?_)
  · match us, hl with
    | [_, _], _ => rfl
  · obtain ⟨b, dx, mo, to, fs, ms, ts, s, e, r, _, rfl, _⟩ := h H (Ex.refl H)
    rfl
  · obtain ⟨b, dx, mo, to, fs, ms, ts, s0, e0, r, rfl, rfl, hb, hl, hm, ht, l1, l2, l3, l4, hR, rfl⟩ := h H (Ex.refl H)
    refine ⟨_, (pss_cons (ps_set (i := 5) sc_broken_excess.nd rfl (Or.inl rfl) (C8.pe_mt t_Jar_room hr (by decide) (pv 2) (pa_cons (pe_ix ix_list (pv 3) (pv 0) (fun _ _ => rfl)) (pa_cons (pe_ix ix_list (pv 3) (pv 1) (fun _ _ => rfl)) pa_nil))))
  (pss_cons (ps_if (pt_cmp (pc_isN (pv 5)))
    (pss_one (ps_ret pe_non))
    pss_nil)
  (pss_one (ps_ret (pe_op op_sub (pe_op op_sub (pe_ix ix_list (pv 4) (pe_op op_add (pv 1) pe_int) (fun _ _ => rfl)) (pe_ix ix_list (pv 4) (pv 0) (fun _ _ => rfl))) (pv 5)))))), ?_⟩
    refine Rt.fin ?_ q
    refine rt_seq (nx_asg (v := opV r) (ev_methF (ev_var rfl) hb hl (ea_cons (ev_ixI (ev_var rfl) (ev_var rfl) hm l1) (ea_cons (ev_ixI (ev_var rfl) (ev_var rfl) hm l2) ea_nil)) hR)) ?_
    cases r with
    | none => exact rt_ifseq (b := true) (et_test (ev_isN (ev_var (v := .non) rfl))) (fun _ => rt_ret ev_c) fun z => by cases z
    | some z => exact rt_ifseq (b := false) (et_test (ev_isN (ev_var (v := .int z) rfl))) (fun z => by cases z) fun _ => rt_ret (ev_op (ev_op (ev_ixI (i := e0 + 1) (ev_var rfl) (ev_op (ev_var rfl) ev_c rv_I0) ht l4) (ev_ixI (ev_var rfl) (ev_var rfl) ht l3) rv_I0) (ev_var (v := .int z) rfl) rv_I0)
end
/-! the sums ahead of each visit -/
def totsL (vs : List (Int × Int)) : List Int := (List.range (vs.length + 1)).map (tot vs)
def totsU (vs : List (Int × Int)) (n : Nat) : List Int := (List.range (n + 1)).map (tot vs)
theorem totsU_succ (vs : List (Int × Int)) (n : Nat) : totsU vs (n + 1) = totsU vs n ++ [tot vs n + cst vs n] := by
  unfold totsU
  rw [List.range_succ, List.map_append]
  rfl
theorem totsU_last (vs : List (Int × Int)) (n : Nat) : ∃ l, totsU vs n = l ++ [tot vs n] := by
  unfold totsU
  rw [List.range_succ, List.map_append]
  exact ⟨_, rfl⟩
theorem totsU_len (vs : List (Int × Int)) (n : Nat) : (totsU vs n).length = n + 1 := by
  unfold totsU
  rw [List.length_map, List.length_range]
theorem tots_at (vs : List (Int × Int)) {i : Nat} (h : i ≤ vs.length) : (totsL vs).getD i 0 = tot vs i := by
  unfold totsL
  rw [List.getD_eq_getElem?_getD, List.getElem?_map, List.getElem?_range (by omega)]
  rfl
def RTot (vs : List V) (H : Hp) (W : V → Hp → Prop) : Prop := ∃ l rs, vs = [.ref l] ∧ PairsT H l rs ∧ rs.length ≤ 300 ∧ W = fun v H2 => ∃ p, v = .ref p ∧ H2 p = some (.lst ((totsL rs).map V.int))
section
variable {P : Program} {w : World} {K : PySem.W.Frag} {mg : Str → Option Value} {base : Heap}
theorem cal_totals_ahead {f : Addr} {fd : FuncData} (F : C8.Def K mg "_totals_ahead" s_totals_ahead f fd) (b : Binds K fd ["visits"] []) : C8.Cal P w K mg base 1 "_totals_ahead" (spW RTot) [] := by
  refine calW F b sc_totals_ahead (fun vs H v h => ?_) (fun cdv A outer s H vs W E hr h => ?_)
  · obtain ⟨l, rs, rfl, _⟩ := h
    rfl
  · obtain ⟨l, rs, rfl, hP, hn, rfl⟩ := h
    refine ⟨_, (pss_cons (ps_set (i := 1) sc_totals_ahead.nd rfl (Or.inl rfl) (pe_lst (pa_cons pe_int pa_nil)))
  (pss_cons (ps_for PassesOwn.never rfl (pi_list (pv 0)) (pg_tup rfl (pgs_cons (pg_name (i := 2) sc_totals_ahead.nd rfl (Or.inl rfl)) (pgs_cons (pg_name (i := 3) sc_totals_ahead.nd rfl (Or.inl rfl)) pgs_nil)))
    (pss_one (ps_expr (pe_bm PySem.F.plainAttrs_list PySem.F.slot_list_append PySem.F.type_list_append mt_append (pv 1) (pa_cons (pe_op op_add (pe_ix ix_list (pv 1) (pe_un un_neg pe_int) (fun _ _ => rfl)) (pv 3)) pa_nil)))))
  (pss_one (ps_ret (pv 1))))), ?_⟩
    intro H1 e1 D q
    refine q_asgL (xs := [.int 0]) (el_lst (ea_cons ev_c ea_nil) (by decide)) fun p H2 np e2 hp => ?_
    obtain ⟨ps, hl, hps⟩ := hP.mono e1
    have len : (ps.map V.ref).length = rs.length := by rw [List.length_map]; exact hps.len
    refine q_forL (K := K) (a := l) (xs := ps.map V.ref) (ev_var rfl) (sq_of (e2 _ _ hl)) (fun i σ' H' => ∃ o2 o3, σ' = [some (.ref l), some (.ref p), o2, o3] ∧ Ex H1 H' ∧ H' p = some (.lst ((totsU rs i).map V.int))) (fun H3 e3 => ⟨_, _, rfl, e2.trans e3, e3 _ _ hp⟩) (fun i σ' H' _ ⟨_, _, _, e, _⟩ => sq_of (e _ _ hl)) (fun i x σ' H' hx ⟨o2, o3, hσ, e, hp'⟩ => ?_) fun σ' H' ⟨o2, o3, hσ, e, hp'⟩ => ?_
    · subst hσ
      rw [List.getElem?_map] at hx
      obtain ⟨t, ht, et⟩ := Option.map_eq_some_iff.mp hx
      subst et
      have hi : i < rs.length := by
        rw [← hps.len]
        exact (List.getElem?_eq_some_iff.mp ht).1
      obtain ⟨t', ht', tt⟩ := hps.at (getD_some hi)
      rw [ht] at ht'
      cases ht'
      refine ⟨t, [.int (mom rs i), .int (cst rs i)], rfl, st_of (e _ _ tt), rfl, _, _, rfl, _, _, rfl, rfl, ?_⟩
      obtain ⟨ini, hini⟩ := totsU_last rs i
      have hat : atI ((totsU rs i).map V.int) (-1) = some (.int (tot rs i)) := by
        rw [hini, List.map_append]
        exact atI_last _ _
      refine s_app (xs := (totsU rs i).map V.int) hp' (ev_var rfl) (ev_op (ev_ixL (ev_var rfl) (ev_un ev_c ru_neg) (sq_of hp') hat) (ev_var rfl) rv_I0) (by rw [List.length_map, totsU_len]; omega) fun H4 e4 => ⟨_, _, rfl, Ex.mut (e.trans e4) np, ?_⟩
      rw [upd_same, totsU_succ, List.map_append]
      rfl
    · subst hσ
      rw [len] at hp'
      exact s_ret (ev_var rfl) fun H4 e4 => q _ H4 (e.trans e4) ⟨p, rfl, e4 _ _ hp'⟩
end
/-! which start is the first, which end the best: the mathematics -/
structure VOk (vs : List (Int × Int)) : Prop where
  cost : ∀ i, i < vs.length → 1 ≤ cst vs i
  mono : ∀ i j, i ≤ j → j < vs.length → mom vs i ≤ mom vs j
theorem tot_le {vs : List (Int × Int)} (h : VOk vs) {i : Nat} : ∀ {j : Nat}, i ≤ j → j ≤ vs.length → tot vs i ≤ tot vs j
  | 0, hij, _ => by
    obtain rfl : i = 0 := by omega
    exact Int.le_refl _
  | j + 1, hij, hj => by
    by_cases e : i = j + 1
    · rw [e]
      exact Int.le_refl _
    · have z := tot_le h (i := i) (j := j) (by omega) (by omega)
      have c := h.cost j (by omega)
      show tot vs i ≤ tot vs j + cst vs j
      omega
theorem exc_jar (S f : Int) (vs : List (Int × Int)) (s e : Nat) : excB (.jar S f) vs s e = some (tot vs (e + 1) - tot vs s - (S + (f * mom vs e - f * mom vs s))) := by
  show some (tot vs (e + 1) - tot vs s - (S + f * (mom vs e - mom vs s))) = _
  rw [Int.mul_sub]
theorem exc_win (M p : Int) (vs : List (Int × Int)) (s e : Nat) : excB (.win M p) vs s e = if mom vs e - mom vs s < p then some (tot vs (e + 1) - tot vs s - M) else none := by
  unfold excB roomB
  by_cases h : mom vs e - mom vs s < p
  · simp only [if_pos h]
    rfl
  · simp only [if_neg h]
    rfl
theorem exc_self {bd : Bd} (h : bd.ok) (vs : List (Int × Int)) (s : Nat) : ∃ y, excB bd vs s s = some y := by
  cases bd with
  | jar S f => exact ⟨_, exc_jar S f vs s s⟩
  | win M p =>
    have hp : 1 ≤ p := h.2.2.1
    rw [exc_win, if_pos (by omega)]
    exact ⟨_, rfl⟩
structure Best (bd : Bd) (vs : List (Int × Int)) (s E : Nat) (y : Int) : Prop where
  le : s ≤ E
  lt : E < vs.length
  val : excB bd vs s E = some y
  top : ∀ e z, s ≤ e → e < vs.length → excB bd vs s e = some z → z ≤ y
  far : ∀ m p, bd = .win m p → ∀ e, E < e → e < vs.length → excB bd vs s e = none
theorem best_step {bd : Bd} {vs : List (Int × Int)} (ok : VOk vs) {s E E' : Nat} {y y' y0 : Int} (h : Best bd vs (s + 1) E y) (h1 : s ≤ E') (h2 : E' ≤ E) (hn : ∀ e, E' < e → e ≤ E → excB bd vs s e = none) (hv : excB bd vs s E' = some y') (h0 : excB bd vs s s = some y0) :
    Best bd vs s (if y0 > y' then s else E') (if y0 > y' then y0 else y') := by
  have hlt := h.lt
  cases bd with
  | jar S f =>
    obtain rfl : E' = E := by
      by_cases z : E' < E
      · have q := hn E z (Nat.le_refl _)
        rw [exc_jar] at q
        cases q
      · omega
    have v1 := h.val
    rw [exc_jar] at v1 hv h0
    injection v1 with v1
    injection hv with hv
    injection h0 with h0
    have tp : ∀ e, s + 1 ≤ e → e < vs.length → tot vs (e + 1) - tot vs (s + 1) - (S + (f * mom vs e - f * mom vs (s + 1))) ≤ y := fun e a b => h.top e _ a b (exc_jar S f vs (s + 1) e)
    have tp2 : ∀ e z, s ≤ e → e < vs.length → excB (.jar S f) vs s e = some z → z ≤ y' ∨ z = y0 := fun e z a b q => by
      rw [exc_jar] at q
      injection q with q
      by_cases es : e = s
      · subst es
        exact .inr (by omega)
      · have z1 := tp e (by omega) b
        exact .inl (by omega)
    by_cases g : y0 > y'
    · rw [if_pos g, if_pos g]
      exact ⟨Nat.le_refl _, by omega, by rw [exc_jar, h0], fun e z a b q => by rcases tp2 e z a b q with w | w <;> omega, fun m p z => by cases z⟩
    · rw [if_neg g, if_neg g]
      exact ⟨h1, by omega, by rw [exc_jar, hv], fun e z a b q => by rcases tp2 e z a b q with w | w <;> omega, fun m p z => by cases z⟩
  | win M p =>
    have w1 : mom vs E' - mom vs s < p := by
      by_cases q : mom vs E' - mom vs s < p
      · exact q
      · rw [exc_win, if_neg q] at hv
        cases hv
    rw [exc_win, if_pos w1] at hv
    injection hv with hv
    have w0 : y0 = tot vs (s + 1) - tot vs s - M := by
      by_cases q : mom vs s - mom vs s < p
      · rw [exc_win, if_pos q] at h0
        injection h0 with h0
        omega
      · rw [exc_win, if_neg q] at h0
        cases h0
    have t1 := tot_le ok (i := s + 1) (j := E' + 1) (by omega) (by omega)
    have g : ¬ y0 > y' := by omega
    rw [if_neg g, if_neg g]
    have out : ∀ e, E' < e → e < vs.length → excB (.win M p) vs s e = none := fun e a b => by
      by_cases q : e ≤ E
      · exact hn e a q
      · have z := h.far M p rfl e (by omega) b
        have ms := ok.mono s (s + 1) (by omega) (by omega)
        rw [exc_win] at z ⊢
        by_cases q2 : mom vs e - mom vs (s + 1) < p
        · rw [if_pos q2] at z
          cases z
        · rw [if_neg (by omega)]
    refine ⟨h1, by omega, by rw [exc_win, if_pos w1, hv], fun e z a b q => ?_, fun _ _ _ => out⟩
    by_cases c : E' < e
    · rw [out e c b] at q
      cases q
    · have t2 := tot_le ok (i := e + 1) (j := E' + 1) (by omega) (by omega)
      rw [exc_win] at q
      by_cases q2 : mom vs e - mom vs s < p
      · rw [if_pos q2] at q
        injection q with q
        omega
      · rw [if_neg q2] at q
        cases q
theorem best_last {bd : Bd} {vs : List (Int × Int)} {s : Nat} {y : Int} (hs : s + 1 = vs.length) (h0 : excB bd vs s s = some y) : Best bd vs s s y :=
  ⟨Nat.le_refl _, by omega, h0, fun e z a b q => by
    obtain rfl : e = s := by omega
    rw [h0] at q
    injection q with q
    omega, fun _ _ _ e a b => by omega⟩
def PosP (bd : Bd) (vs : List (Int × Int)) (s : Nat) : Prop := ∃ e z, s ≤ e ∧ e < vs.length ∧ excB bd vs s e = some z ∧ 0 < z
theorem best_pos {bd : Bd} {vs : List (Int × Int)} {s E : Nat} {y : Int} (h : Best bd vs s E y) : PosP bd vs s ↔ 0 < y :=
  ⟨fun ⟨e, z, a, b, q, hz⟩ => by
    have := h.top e z a b q
    omega, fun hy => ⟨E, y, h.le, h.lt, h.val, hy⟩⟩
/-- r is the least s from lo on that has p -/
def LFr (p : Nat → Prop) (lo n : Nat) (r : Option Nat) : Prop := match r with
  | none => ∀ s, lo ≤ s → s < n → ¬ p s
  | some s => lo ≤ s ∧ s < n ∧ p s ∧ ∀ s', lo ≤ s' → s' < s → ¬ p s'
theorem lfr_yes {p : Nat → Prop} {s n : Nat} (h : s < n) (hp : p s) : LFr p s n (some s) := ⟨Nat.le_refl _, h, hp, fun s' a b => by omega⟩
theorem lfr_no {p : Nat → Prop} {s n : Nat} {r : Option Nat} (h : LFr p (s + 1) n r) (hp : ¬ p s) : LFr p s n r := by
  cases r with
  | none =>
    intro s' a b
    by_cases e : s' = s
    · rw [e]
      exact hp
    · exact h s' (by omega) b
  | some t =>
    obtain ⟨h1, h2, h3, h4⟩ := h
    refine ⟨by omega, h2, h3, fun s' a b => ?_⟩
    by_cases e : s' = s
    · rw [e]
      exact hp
    · exact h4 s' (by omega) b
theorem lfr_one {p : Nat → Prop} {lo n : Nat} {r t : Option Nat} (h : LFr p lo n r) (k : LFr p lo n t) : r = t := by
  cases r with
  | none => cases t with
    | none => rfl
    | some b => exact absurd k.2.2.1 (h b k.1 k.2.1)
  | some a => cases t with
    | none => exact absurd h.2.2.1 (k a h.1 h.2.1)
    | some b =>
      have h1 : ¬ a < b := fun z => k.2.2.2 a h.1 z h.2.2.1
      have h2 : ¬ b < a := fun z => h.2.2.2 b k.1 z k.2.2.1
      obtain rfl : a = b := by omega
      rfl
theorem lfr_is (p : Nat → Prop) (n : Nat) : ∀ (d lo : Nat), lo + d = n → ∃ r, LFr p lo n r
  | 0, lo, h => ⟨none, fun s a b => by omega⟩
  | d + 1, lo, h => by
    by_cases hp : p lo
    · exact ⟨some lo, lfr_yes (by omega) hp⟩
    · obtain ⟨r, hr⟩ := lfr_is p n d (lo + 1) (by omega)
      exact ⟨r, lfr_no hr hp⟩
theorem lfr_ex (p : Nat → Prop) (lo n : Nat) : ∃ r, LFr p lo n r := by
  by_cases h : lo ≤ n
  · exact lfr_is p n (n - lo) lo (by omega)
  · exact ⟨none, fun s a b => by omega⟩
def natV (r : Option Nat) : V := opV (r.map fun s => (s : Int))
/-! the first start from which a stretch is broken -/
def RFS (RX : List (Option V) → List V → Hp → V → Prop) (cl : List (Str × Addr)) (ws : List (Option V)) (vs : List V) (H : Hp) (v : V) : Prop := ∃ (fe c' : Addr) (bd : Bd) (rs : List (Int × Int)) (r : Option Nat), vs = [.int (rs.length : Int), .ref fe] ∧ H fe = some (NdefX.FnO fe (mkE cl c')) ∧ H c' = some (LamX.CodeO c' qE) ∧
  VOk rs ∧ bd.ok ∧ rs.length ≤ 300 ∧ (∀ (s e : Nat), s ≤ e → e < rs.length → ∀ H1, Ex H H1 → RX ws [.int (s : Int), .int (e : Int)] H1 (opV (excB bd rs s e))) ∧ LFr (PosP bd rs) 0 rs.length r ∧ v = natV r
theorem fs_at {n i s : Nat} (h : s + 1 + i = n) : (0 + ((((n : Int) - 0).toNat : Nat) : Int) - 1 + (i : Int) * -1) = (s : Int) := by omega
theorem fs_ex {n i : Nat} (h : i < n) : ∃ s : Nat, s + 1 + i = n := ⟨n - 1 - i, by omega⟩
theorem fs_lt {n i : Nat} (h : i < ((n : Int) - 0).toNat) : i < n := by omega
theorem fs_l1 {n i s : Nat} (h : s + 1 + i = n) : n - i = s + 1 := by omega
theorem fs_l2 {n i s : Nat} (h : s + 1 + i = n) : n - (i + 1) = s := by omega
def fsS (n fe : V) (r : Option Nat) (E : Int) (o : Option V) : L2.St := [some n, some fe, some (natV r), some (.int E), o]
section
variable {P : Program} {w : World} {K : PySem.W.Frag} {mg : Str → Option Value} {base : Heap}
theorem cal_first_start {RX : List (Option V) → List V → Hp → V → Prop} {f : Addr} {fd : FuncData} (T : Blt mg) (Fn : ∀ cl f c', NdefX.NOk P w K mg base C8.CX0 2 f (mkE cl c') ["start", "end"] frE (fun ws => spF (RX ws))) (F : C8.Def K mg "_first_start" s_first_start f fd) (b : Binds K fd ["many", "excess"] []) :
    CalC P w K mg base 3 "_first_start" frE (fun cl ws => spF (RFS RX cl ws)) := by
  refine ⟨f, fd, _, fun cl ws => fn0C F.fn sc_first_start (fun vs H Q E ⟨v, h, _⟩ => ?_) (fun cdv A outer s H vs Q E hr C0 far ⟨v, h, q⟩ => ?_), F.mgf, F.kp, b⟩
  · obtain ⟨fe, c', bd, rs, r, rfl, _⟩ := h H (Ex.refl H)
    rfl
  · obtain ⟨fe, c', bd, rs, r, rfl, hf, hc, ok, bok, hn, hX, hr0, rfl⟩ := h H (Ex.refl H)
    have fnX := Fn cl
    have hclX : ∀ c', (mkE cl c').cl = cl := fun _ => rfl
    refine ⟨_, (pss_cons (ps_set (i := 2) sc_first_start.nd rfl (Or.inl rfl) pe_non)
  (pss_cons (ps_set (i := 3) sc_first_start.nd rfl (Or.inl rfl) (pe_op op_sub (pv 0) pe_int))
  (pss_cons (ps_for PassesOwn.never rfl (pi_revR (by rfl) T.b_reversed (prg_1 (by rfl) T.b_range (pv 0))) (pg_name (i := 4) sc_first_start.nd rfl (Or.inl rfl))
    (pss_cons (ps_while PassesOwn.never (pt_cmp (pc_isN (pe_callG (i := 1) (wsOf := (fun _ => ws)) fnX hclX (fun _ _ _ _ I => cells_later I rfl C0 far) hr (by decide) rfl (Or.inl rfl) (pa_cons (pv 4) (pa_cons (pv 3) pa_nil)))))
      (pss_one (ps_aug (i := 3) sc_first_start.nd rfl (Or.inl rfl) pe_int ip_sub)))
    (pss_cons (ps_if (pt_cmpR op_gt (pe_callG (i := 1) (wsOf := (fun _ => ws)) fnX hclX (fun _ _ _ _ I => cells_later I rfl C0 far) hr (by decide) rfl (Or.inl rfl) (pa_cons (pv 4) (pa_cons (pv 4) pa_nil))) (pe_callG (i := 1) (wsOf := (fun _ => ws)) fnX hclX (fun _ _ _ _ I => cells_later I rfl C0 far) hr (by decide) rfl (Or.inl rfl) (pa_cons (pv 4) (pa_cons (pv 3) pa_nil))) (nomark _))
      (pss_one (ps_set (i := 3) sc_first_start.nd rfl (Or.inl rfl) (pv 4)))
      pss_nil)
    (pss_one (ps_if (pt_cmpR op_gt (pe_callG (i := 1) (wsOf := (fun _ => ws)) fnX hclX (fun _ _ _ _ I => cells_later I rfl C0 far) hr (by decide) rfl (Or.inl rfl) (pa_cons (pv 4) (pa_cons (pv 3) pa_nil))) pe_int (nomark _))
      (pss_one (ps_set (i := 2) sc_first_start.nd rfl (Or.inl rfl) (pv 4)))
      pss_nil)))))
  (pss_one (ps_ret (pv 2)))))), ?_⟩
    refine Rt.fin ?_ q
    have callAt : ∀ {σ : L2.St} {ta tb : TE} {s e : Nat}, σ[1]? = some (some (.ref fe)) → Ev ta σ H (.int (s : Int)) → Ev tb σ H (.int (e : Int)) → s ≤ e → e < rs.length → Ev (tCallG (mkE cl) 1 (fun _ => ws) (fun ws => spF (RX ws)) (tCons ta (tCons tb tNil))) σ H (opV (excB bd rs s e)) := fun h1 ha hb hs he =>
      ev_callG h1 hf hc (ea_cons ha (ea_cons hb ea_nil)) (hX _ _ hs he)
    refine rt_seq (nx_asg (v := natV none) ev_c) ?_
    refine rt_seq (nx_asg (v := .int ((rs.length : Int) - 1)) (ev_op (ev_var rfl) ev_c rv_I0)) ?_
    refine rt_seqP (P := fun σ => ∃ E o, σ = fsS (.int (rs.length : Int)) (.ref fe) r E o) (NxP.imp (nxp_for (fun i σ => ∃ (t : Option Nat) (E : Int) (o : Option V), σ = fsS (.int (rs.length : Int)) (.ref fe) t E o ∧ LFr (PosP bd rs) (rs.length - i) rs.length t ∧ (i = 0 → E = (rs.length : Int) - 1) ∧ (0 < i → ∃ (B : Nat) (y : Int), E = (B : Int) ∧ Best bd rs (rs.length - i) B y))
      ⟨none, _, none, rfl, fun s a b => by omega, fun _ => rfl, fun z => by omega⟩ (ei_revR (ev_var rfl) (by omega) (by omega)) fun i σ hi ⟨t, E, o, hσ, ht, hE0, hE1⟩ => gnxp_name ?_) fun σ ⟨t, E, o, hσ, ht, _, _⟩ => ?_) fun σ ⟨E, o, hσ⟩ => ?_
    · -- a turn: the start s
      subst hσ
      have hi2 : i < rs.length := fs_lt hi
      obtain ⟨s, hs⟩ := fs_ex hi2
      rw [fs_at hs]
      have l1 : rs.length - i = s + 1 := fs_l1 hs
      have l2 : rs.length - (i + 1) = s := fs_l2 hs
      rw [l1] at ht hE1
      rw [l2]
      obtain ⟨y0, h0⟩ := exc_self bok rs s
      -- where the end stands, and what a step from there gives
      have pre : ∃ B : Nat, E = (B : Int) ∧ s ≤ B ∧ B < rs.length ∧ ∀ B' y', s ≤ B' → B' ≤ B → (∀ e, B' < e → e ≤ B → excB bd rs s e = none) → excB bd rs s B' = some y' → Best bd rs s (if y0 > y' then s else B') (if y0 > y' then y0 else y') := by
        by_cases iz : i = 0
        · refine ⟨s, by rw [hE0 iz]; omega, Nat.le_refl _, by omega, fun B' y' a b _ hv => ?_⟩
          obtain rfl : B' = s := by omega
          rw [h0] at hv
          injection hv with hv
          subst hv
          rw [if_neg (by omega), if_neg (by omega)]
          exact best_last (by omega) h0
        · obtain ⟨B, y, eB, hB⟩ := hE1 (by omega)
          exact ⟨B, eB, by have := hB.le; omega, hB.lt, fun B' y' a b c hv => best_step ok hB a b c hv h0⟩
      obtain ⟨B, eB, sB, Bn, step⟩ := pre
      subst eB
      -- while none: end goes back
      refine nxp_seqP (P := fun σ => ∃ (B' : Nat) (y' : Int), σ = fsS (.int (rs.length : Int)) (.ref fe) t (B' : Int) (some (.int (s : Int))) ∧ s ≤ B' ∧ B' ≤ B ∧ (∀ e, B' < e → e ≤ B → excB bd rs s e = none) ∧ excB bd rs s B' = some y')
        (nxp_while (fun σ => ∃ B' : Nat, σ = fsS (.int (rs.length : Int)) (.ref fe) t (B' : Int) (some (.int (s : Int))) ∧ s ≤ B' ∧ B' ≤ B ∧ ∀ e, B' < e → e ≤ B → excB bd rs s e = none) (fun σ => match σ with | [_, _, _, some (.int z), _] => z.toNat | _ => 0) ⟨B, rfl, sB, Nat.le_refl _, fun e a b => by omega⟩ fun σ ⟨B', hσ, a1, a2, a3⟩ => ?_) fun σ ⟨B', y', hσ, a1, a2, a3, hv⟩ => ?_
      · subst hσ
        have hlt : B' < rs.length := by omega
        refine ⟨_, et_test (ev_isN (callAt (s := s) (e := B') rfl (ev_var rfl) (ev_var rfl) a1 hlt)), fun hb => ?_, fun hb => ?_⟩
        · have hz : excB bd rs s B' = none := by
            cases e : excB bd rs s B' with
            | none => rfl
            | some z =>
              rw [e] at hb
              exact absurd (of_decide_eq_true hb) (by intro z; cases z)
          have hne : B' ≠ s := fun z => by
            rw [z, h0] at hz
            cases hz
          refine nxp_of (nx_aug (a := (B' : Int)) (d := 1) rfl ev_c) ⟨⟨B' - 1, ?_, by omega, by omega, fun e a b => ?_⟩, ?_⟩
          · have ez : (B' : Int) - 1 = ((B' - 1 : Nat) : Int) := by omega
            rw [← ez]
            rfl
          · by_cases eq : e = B'
            · rw [eq]
              exact hz
            · exact a3 e (by omega) b
          · show ((B' : Int) - 1).toNat < (B' : Int).toNat
            omega
        · cases e : excB bd rs s B' with
          | none =>
            rw [e] at hb
            exact absurd rfl (of_decide_eq_false hb)
          | some z => exact ⟨B', z, rfl, a1, a2, a3, e⟩
      · subst hσ
        have best := step B' y' a1 a2 a3 hv
        have hlt : B' < rs.length := by omega
        refine nxp_seqP (P := fun σ => σ = fsS (.int (rs.length : Int)) (.ref fe) t (((if y0 > y' then s else B' : Nat) : Nat) : Int) (some (.int (s : Int)))) (nxp_if (b := decide (y0 > y')) (et_test (ev_op (ev_is (callAt (s := s) (e := s) rfl (ev_var rfl) (ev_var rfl) (Nat.le_refl _) (by omega)) (by rw [h0]; rfl)) (ev_is (callAt (s := s) (e := B') rfl (ev_var rfl) (ev_var rfl) a1 hlt) (by rw [hv]; rfl)) rv_I0)) (fun g => ?_) fun g => ?_) fun σ hσ => ?_
        · rw [if_pos (of_decide_eq_true g)]
          exact nxp_of (nx_asg (v := .int (s : Int)) (ev_var rfl)) rfl
        · rw [if_neg (of_decide_eq_false g)]
          exact nxp_of nx_next rfl
        · subst hσ
          generalize hB2 : (if y0 > y' then s else B' : Nat) = B2 at best ⊢
          generalize (if y0 > y' then y0 else y') = y2 at best
          refine nxp_if (b := decide (y2 > 0)) (et_test (ev_op (ev_is (callAt (s := s) (e := B2) rfl (ev_var rfl) (ev_var rfl) best.le best.lt) (by rw [best.val]; rfl)) ev_c rv_I0)) (fun g => ?_) fun g => ?_
          · exact nxp_of (nx_asg (v := .int (s : Int)) (ev_var rfl)) ⟨some s, _, _, rfl, lfr_yes (by omega) ((best_pos best).mpr (of_decide_eq_true g)), fun z => by omega, fun _ => ⟨B2, y2, rfl, best⟩⟩
          · exact nxp_of nx_next ⟨t, _, _, rfl, lfr_no ht fun z => of_decide_eq_false g ((best_pos best).mp z), fun z => by omega, fun _ => ⟨B2, y2, rfl, best⟩⟩
    · have en : (((rs.length : Int) - 0).toNat) = rs.length := by omega
      rw [en, Nat.sub_self] at ht
      obtain rfl := lfr_one ht hr0
      exact ⟨E, o, hσ⟩
    · subst hσ
      exact rt_ret (ev_var rfl)
end
/-! the first broken stretch -/
def Over (bd : Bd) (rs : List (Int × Int)) (s e : Nat) : Prop := ∃ z, excB bd rs s e = some z ∧ 0 < z
def BFst (bd : Bd) (rs : List (Int × Int)) (r : Option (Int × Int)) : Prop := ∃ t : Option Nat, LFr (PosP bd rs) 0 rs.length t ∧ match t with
  | none => r = none
  | some s => ∃ e, s ≤ e ∧ e < rs.length ∧ Over bd rs s e ∧ (∀ e', s ≤ e' → e' < e → ¬ Over bd rs s e') ∧ r = some (mom rs s, mom rs e)
def VR (r : Option (Int × Int)) (v : V) (H : Hp) : Prop := match r with
  | none => v = .non
  | some q => ∃ p, v = .ref p ∧ H p = some (.tup [.int q.1, .int q.2])
def spBrk (T : List NdefX.NTab) (cJ cW : Addr) : Sp := fun vs H Q _ => ∃ (b l : Addr) (bd : Bd) (rs : List (Int × Int)) (r : Option (Int × Int)), vs = [.ref b, .ref l] ∧ BdAt cJ cW bd b H ∧ PairsT H l rs ∧ VOk rs ∧ bd.ok ∧ rs.length ≤ 300 ∧ NdefX.TabsN T H ∧ BFst bd rs r ∧
  ∀ v H', LamX.ExtN H H' → NdefX.TabsN T H' → VR r v H' → Q v H'
theorem bfst_ex (bd : Bd) (rs : List (Int × Int)) : ∃ r, BFst bd rs r := by
  obtain ⟨t, ht⟩ := lfr_ex (PosP bd rs) 0 rs.length
  cases t with
  | none => exact ⟨none, none, ht, rfl⟩
  | some s =>
    obtain ⟨e, z, h1, h2, h3, h4⟩ := ht.2.2.1
    obtain ⟨u, hu⟩ := lfr_ex (Over bd rs s) s rs.length
    cases u with
    | none => exact absurd ⟨z, h3, h4⟩ (hu e h1 h2)
    | some e0 => exact ⟨_, some s, ht, e0, hu.1, hu.2.1, hu.2.2.1, hu.2.2.2, rfl⟩
def msL (vs : List (Int × Int)) : List Int := (List.range vs.length).map (mom vs)
theorem ms_len (vs : List (Int × Int)) : (msL vs).length = vs.length := by
  unfold msL
  rw [List.length_map, List.length_range]
theorem ms_at (vs : List (Int × Int)) {i : Nat} (h : i < vs.length) : (msL vs).getD i 0 = mom vs i := by
  unfold msL
  rw [List.getD_eq_getElem?_getD, List.getElem?_map, List.getElem?_range h]
  rfl
theorem tots_len (vs : List (Int × Int)) : (totsL vs).length = vs.length + 1 := by
  unfold totsL
  rw [List.length_map, List.length_range]
theorem exc_some {bd : Bd} {vs : List (Int × Int)} (ok : VOk vs) {s e e' : Nat} {z : Int} (h : excB bd vs s e = some z) (h1 : e' ≤ e) (h2 : e < vs.length) : ∃ y, excB bd vs s e' = some y := by
  cases bd with
  | jar S f => exact ⟨_, exc_jar S f vs s e'⟩
  | win M p =>
    have m := ok.mono e' e h1 h2
    rw [exc_win] at h ⊢
    by_cases q : mom vs e - mom vs s < p
    · rw [if_pos (by omega)]
      exact ⟨_, rfl⟩
    · rw [if_neg q] at h
      cases h
theorem ev_go {te : TE} {σ : L2.St} {H : Hp} {W : V → Hp → Prop} {i : Nat} {u : TS} {D : Ends} (h : EvW te σ H W) (k : ∀ v H1, Ex H H1 → W v H1 → u D (σ.set i (some v)) H1) : tSeq (tAsg te (gName i)) u D σ H := h H (Ex.refl H) _ k
theorem q_ndef {T : List NdefX.NTab} {i : Nat} {mk : Addr → NdefX.NF} {u : TS} {D : Ends} {σ : L2.St} {H : Hp} (hT : NdefX.TabsN T H) (k : ∀ (f c' : Addr) (H1 : Hp), LamX.ExtN H H1 → NdefX.TabsN T H1 → H f = none → H1 f = some (NdefX.FnO f (mk c')) → H1 c' = some (LamX.CodeO c' (mk c').qual) → u D (σ.set i (some (.ref f))) H1) :
    tSeq (NdefX.tNdef T i mk) u D σ H := ⟨hT, k⟩
theorem rexc {C : Addr} {RR : List V → Hp → V → Prop} {bd : Bd} {rs : List (Int × Int)} {b dx mo to : Addr} {fs : List (Str × V)} {H : Hp} {s e : Nat} (hb : H b = some (.ins C dx fs)) (hl : fs.lookup ("room" : Str) = none) (hR : ∀ a z H1, H1 b = some (.ins C dx fs) → RR [.ref b, .int a, .int z] H1 (opV (roomB bd a z)))
    (hm : H mo = some (.lst ((msL rs).map V.int))) (ht : H to = some (.lst ((totsL rs).map V.int))) (h1 : s ≤ e) (h2 : e < rs.length) : RExc C RR [some (.ref b), some (.ref mo), some (.ref to)] [.int (s : Int), .int (e : Int)] H (opV (excB bd rs s e)) :=
  ⟨b, dx, mo, to, fs, msL rs, totsL rs, s, e, roomB bd (mom rs s) (mom rs e), rfl, rfl, hb, hl, hm, ht, by rw [ms_len]; omega, by rw [ms_len]; omega, by rw [tots_len]; omega, by rw [tots_len]; omega, fun H1 e1 => by
    rw [ms_at rs (show s < rs.length by omega), ms_at rs h2]
    exact hR _ _ H1 (e1 _ _ hb), by
    unfold excB
    rw [tots_at rs (show e + 1 ≤ rs.length by omega), tots_at rs (show s ≤ rs.length by omega)]⟩
section
variable {P : Program} {w : World} {K : PySem.W.Frag} {mg : Str → Option Value} {base : Heap} {C cJ cW : Addr} {RR : List V → Hp → V → Prop}
theorem brk_body {P0 c ff : Addr} {A : Around} {outer : List Env} {s : Shared} {H : Hp} {Q : VK} {E : XK} (T : Blt mg) (t_Jar_room : C8.Met P w K mg base 1 C "room" (spF RR) []) (c_totals_ahead : C8.Cal P w K mg base 1 "_totals_ahead" (spW RTot) [])
    (c_first_start : CalC P w K mg base 3 "_first_start" frE (fun cl ws => spF (RFS (RExc C RR) cl ws))) (TB : LamX.TabB base mg c P0) (hr : Room 3 (A.deeper (envOfC "broken" (C8.fnScope s_broken) s.heap.objs.size ff (.ref c))))
    {b l dx : Addr} {fs : List (Str × V)} {bd : Bd} {rs : List (Int × Int)} {r : Option (Int × Int)} (hb : H b = some (.ins C dx fs)) (hl : fs.lookup ("room" : Str) = none) (hR : ∀ a z H1, H1 b = some (.ins C dx fs) → RR [.ref b, .int a, .int z] H1 (opV (roomB bd a z)))
    (hP : PairsT H l rs) (ok : VOk rs) (bok : bd.ok) (hn : rs.length ≤ 300) (hT : NdefX.TabsN [(P0, fun _ _ => qE)] H) (hr0 : BFst bd rs r) (q : ∀ v H', LamX.ExtN H H' → NdefX.TabsN [(P0, fun _ _ => qE)] H' → VR r v H' → Q v H') :
    ∃ t, PSs (cxOf C8.CX0 P w K mg base ["bound", "visits", "excess", "first", "last", "moments", "totals", "moment", "_"] "broken" (C8.fnScope s_broken) ff (.ref c) A outer s H E).nox (C8.fnBody s_broken) t ∧ t { nx := fun _ H' => Q .non H', rt := Q } (start ["bound", "visits", "excess", "first", "last", "moments", "totals", "moment", "_"] [.ref b, .ref l]) H := by
  have fnX : ∀ cl f c', NdefX.NOk P w K mg base C8.CX0 2 f (mkE cl c') ["start", "end"] frE (fun ws => spF (RExc C RR ws)) := fun cl => nok_excess t_Jar_room cl
  have ndB : NdefX.ndefB (C8.fnScope s_broken) (C8.fnScope s_broken_excess) frE = true := by decide +kernel
  refine ⟨_, (pss_cons (ps_set (i := 5) sc_broken.nd rfl (Or.inr rfl) (pe_lc (own := [("moment", 7), ("_", 8)]) (g := gTup K 2 (gCons (gName 7) (gCons (gName 8) gNil))) rfl sc_broken.nd (pi_list (pv 1)) (blkOk_by (own := [("moment", 7), ("_", 8)]) (N := ["bound", "visits", "excess", "first", "last", "moments", "totals", "moment", "_"]) (sc := C8.fnScope s_broken) (by decide +kernel)) (fun _ _ _ _ _ => pg_tup rfl (pgs_cons (pg_name (i := 7) sc_broken.nd rfl (Or.inl rfl)) (pgs_cons (pg_name (i := 8) sc_broken.nd rfl (Or.inl rfl)) pgs_nil))) (fun _ _ _ _ _ => pts_nil) (fun _ _ _ _ _ => (pv 7))))
  (pss_cons (ps_set (i := 6) sc_broken.nd rfl (Or.inr rfl) (C8.pe_c c_totals_ahead hr (by decide) rfl (pa_cons (pv 1) pa_nil)))
  (pss_cons (NdefX.ps_ndefS (T := [(P0, fun _ _ => qE)]) (nm := fun _ _ => qE) (P := P0) (i := 2) (st := s_broken_excess) rfl TB rfl (List.mem_singleton.mpr rfl) rfl (fun p hp _ => by rw [List.mem_singleton.mp hp]) (NdefX.ndef_free ndB) rfl rfl rfl sc_broken.nd rfl (Or.inl rfl) (Or.inl rfl))
  (pss_cons (ps_set (i := 3) sc_broken.nd rfl (Or.inl rfl) (pe_cC (wsOf := (fun σ => [0, 5, 6].map (NdefX.slotAt σ))) c_first_start (fun _ _ _ _ I => NdefX.cells_of I (NdefX.Caps.made I.ok (NdefX.ndef_free ndB) (NdefX.ndef_fr ndB) rfl)) (fun _ _ _ _ I => far_made I rfl rfl (fun _ => rfl) fun y c e => (NdefX.Caps.made (fr := frE) (js := [0, 5, 6]) I.ok (NdefX.ndef_free ndB) (NdefX.ndef_fr ndB) rfl).sub y c e) hr (by decide) rfl (pa_cons (pe_callB call_len_seq (by rfl) T.b_len boot_len (pa_cons (pv 5) pa_nil)) (pa_cons (pv 2) pa_nil))))
  (pss_cons (ps_if (pt_cmp (pc_isN (pv 3)))
    (pss_one (ps_ret pe_non))
    pss_nil)
  (pss_cons (ps_set (i := 4) sc_broken.nd rfl (Or.inl rfl) (pv 3))
  (pss_cons (ps_while PassesOwn.never (pt_cmpR op_le (pe_callG (i := 2) (wsOf := (fun σ => [0, 5, 6].map (NdefX.slotAt σ))) (fnX _) (fun _ => rfl) (fun _ _ _ _ I => NdefX.cells_of I (NdefX.Caps.made I.ok (NdefX.ndef_free ndB) (NdefX.ndef_fr ndB) rfl)) hr (by decide) rfl (Or.inl rfl) (pa_cons (pv 3) (pa_cons (pv 4) pa_nil))) pe_int (nomark _))
    (pss_one (ps_aug (i := 4) sc_broken.nd rfl (Or.inl rfl) pe_int ip_add)))
  (pss_one (ps_ret (pe_tup (pa_cons (pe_ix ix_list (pv 5) (pv 3) (fun _ _ => rfl)) (pa_cons (pe_ix ix_list (pv 5) (pv 4) (fun _ _ => rfl)) pa_nil)))))))))))), ?_⟩
  refine q_asgL (xs := (msL rs).map V.int) (by
    have z := el_lcP (K := K) (σ := start ["bound", "visits", "excess", "first", "last", "moments", "totals", "moment", "_"] [V.ref b, V.ref l]) (H := H) (tl := tVar 1) (te := tVar 7) (tt := tYes) (i := 7) (j := 8) (vs := [7, 8]) (fun i => V.int (mom rs i)) (ev_var rfl) hP (by omega) (fun x y => rfl) (fun σ' H1 H2 e Q q => q H2 (Ex.refl H2)) (fun k q0 H1 e1 hq => ev_is (ev_var rfl) (by
      have hk := (List.getElem?_eq_some_iff.mp hq).1
      rw [getD_some hk] at hq
      injection hq with hq
      rw [← hq]
      rfl))
    rw [given_all] at z
    have ez : (msL rs).map V.int = (List.range rs.length).map (fun i => V.int (mom rs i)) := by
      unfold msL
      rw [List.map_map]
      rfl
    rw [ez]
    exact z) fun mo H1 nmo e1 hmo => ?_
  refine ev_go (W := fun v H2 => ∃ p, v = .ref p ∧ H2 p = some (.lst ((totsL rs).map V.int))) (evw_callW (ea_cons (ev_var rfl) ea_nil) fun H2 e2 => ⟨l, rs, rfl, hP.mono (e1.trans e2), hn, rfl⟩) fun v H2 e2 ⟨to, ev, hto⟩ => ?_
  subst ev
  refine q_ndef (hT.ext (e1.trans e2)) fun fe c' H3 e3 hT3 nf hfe hce => ?_
  have e03 : LamX.ExtN H H3 := (Ex.extN (e1.trans e2)).trans e3
  have hb3 : H3 b = some (.ins C dx fs) := e03 _ _ hb fun _ z => by cases z
  have hmo3 := exN_lst e3 (e2 _ _ hmo)
  have hto3 := exN_lst e3 hto
  obtain ⟨t, ht, hm⟩ := hr0
  refine Nx.go (nx_asg (v := natV t) (ev_callC (ea_cons (ev_is (ev_lenL (K := K) (ev_var rfl) (sq_of hmo3)) (by rw [List.length_map, ms_len])) (ea_cons (ev_var rfl) ea_nil)) fun H4 e4 => ⟨fe, c', bd, rs, t, rfl, e4 _ _ hfe, e4 _ _ hce, ok, bok, hn, fun s e hs he H5 e5 => rexc ((e4.trans e5) _ _ hb3) hl hR ((e4.trans e5) _ _ hmo3) ((e4.trans e5) _ _ hto3) hs he, ht, rfl⟩)) fun H4 e4 => ?_
  cases t with
  | none =>
    subst hm
    exact q_when (b := true) (et_test (ev_isN (ev_var (v := .non) rfl))) (fun _ H5 e5 => s_ret ev_c fun H6 e6 => q _ _ (e03.trans (Ex.extN ((e4.trans e5).trans e6))) (hT3.ext ((e4.trans e5).trans e6)) rfl) fun z => by cases z
  | some s0 =>
    obtain ⟨e0, se, en, ⟨z0, hz0, pz0⟩, least, hr⟩ := hm
    subst hr
    refine q_when (b := false) (et_test (ev_isN (ev_var (v := .int (s0 : Int)) rfl))) (fun z => by cases z) fun _ H5 e5 => ?_
    refine Nx.go (nx_asg (v := .int (s0 : Int)) (ev_var rfl)) fun H6 e6 => ?_
    have e36 := (e4.trans e5).trans e6
    have callAt : ∀ {σ : L2.St} {ta tb : TE} {s1 e1 : Nat}, σ[2]? = some (some (.ref fe)) → [0, 5, 6].map (NdefX.slotAt σ) = [some (.ref b), some (.ref mo), some (.ref to)] → Ev ta σ H6 (.int (s1 : Int)) → Ev tb σ H6 (.int (e1 : Int)) → s1 ≤ e1 → e1 < rs.length →
        Ev (tCallG (mkE (cloFrom (envOfC "broken" (C8.fnScope s_broken) s.heap.objs.size ff (.ref c)).cells (C8.fnScope s_broken_excess).names [])) 2 (fun σ => [0, 5, 6].map (NdefX.slotAt σ)) (fun ws => spF (RExc C RR ws)) (tCons ta (tCons tb tNil))) σ H6 (opV (excB bd rs s1 e1)) := fun h1 hw ha hb' hs he =>
      ev_callG h1 (e36 _ _ hfe) (e36 _ _ hce) (ea_cons ha (ea_cons hb' ea_nil)) fun H7 e7 => by
        rw [hw]
        exact rexc ((e36.trans e7) _ _ hb3) hl hR ((e36.trans e7) _ _ hmo3) ((e36.trans e7) _ _ hto3) hs he
    have hno : ∀ i, i < e0 - s0 → ∃ z, excB bd rs s0 (s0 + i) = some z ∧ z ≤ 0 := fun i hi => by
      obtain ⟨z, hz⟩ := exc_some ok hz0 (show s0 + i ≤ e0 by omega) en
      refine ⟨z, hz, Int.not_lt.mp fun pz => least (s0 + i) (by omega) (by omega) ⟨z, hz, pz⟩⟩
    have turns : Nx (tWhile (tTest (tOp (rI0 fun i j => V.bl (decide (i ≤ j))) (tCallG (mkE (cloFrom (envOfC "broken" (C8.fnScope s_broken) s.heap.objs.size ff (.ref c)).cells (C8.fnScope s_broken_excess).names [])) 2 (fun σ => [0, 5, 6].map (NdefX.slotAt σ)) (fun ws => spF (RExc C RR ws)) (tCons (tVar 3) (tCons (tVar 4) tNil))) (tC (.int 0)))) (tAug 4 (tC (.int 1)) (ipI fun i j => i + j)))
        [some (.ref b), some (.ref l), some (.ref fe), some (.int (s0 : Int)), some (.int ((s0 + 0 : Nat) : Int)), some (.ref mo), some (.ref to), none, none] H6 [some (.ref b), some (.ref l), some (.ref fe), some (.int (s0 : Int)), some (.int ((s0 + (e0 - s0) : Nat) : Int)), some (.ref mo), some (.ref to), none, none] :=
      nx_while (e0 - s0) (fun i => [some (.ref b), some (.ref l), some (.ref fe), some (.int (s0 : Int)), some (.int ((s0 + i : Nat) : Int)), some (.ref mo), some (.ref to), none, none]) (fun i hi => by
        obtain ⟨z, hz, pz⟩ := hno i hi
        exact ⟨et_is (et_test (ev_op (ev_is (callAt (s1 := s0) (e1 := s0 + i) rfl rfl (ev_var rfl) (ev_var rfl) (by omega) (by omega)) (by rw [hz]; rfl)) ev_c rv_I0)) (decide_eq_true pz), nx_aug (a := ((s0 + i : Nat) : Int)) (d := 1) rfl ev_c⟩)
        (et_is (et_test (ev_op (ev_is (callAt (s1 := s0) (e1 := s0 + (e0 - s0)) rfl rfl (ev_var rfl) (ev_var rfl) (by omega) (by omega)) (by rw [show s0 + (e0 - s0) = e0 by omega, hz0]; rfl)) ev_c rv_I0)) (decide_eq_false (by omega)))
    rw [show s0 + (e0 - s0) = e0 by omega] at turns
    refine Nx.go turns fun H7 e7 => ?_
    have hmo7 := (e36.trans e7) _ _ hmo3
    refine s_retU (xs := [.int (mom rs s0), .int (mom rs e0)]) (eu_tup (ea_cons (ev_is (ev_ixI (i := s0) (ev_var rfl) (ev_var rfl) hmo7 (by rw [ms_len]; omega)) (by rw [ms_at rs (show s0 < rs.length by omega)])) (ea_cons (ev_is (ev_ixI (i := e0) (ev_var rfl) (ev_var rfl) hmo7 (by rw [ms_len]; omega)) (by rw [ms_at rs en])) ea_nil)) (by simp only [List.length_cons, List.length_nil]; omega)) fun p H8 _ e8 hp => ?_
    exact q _ _ (e03.trans (Ex.extN ((e36.trans e7).trans e8))) (hT3.ext ((e36.trans e7).trans e8)) ⟨p, rfl, hp⟩
/-- what the top says of broken -/
structure BrkAt (K : PySem.W.Frag) (mg : Str → Option Value) (c : Addr) : Prop where
  ex : ∃ (f : Addr) (oc : Value) (od : Option Addr) (kV doc pm : Value) (an : Option Addr) (ct : Value) (osl : Array (Option Value)), K.lookup f = some ⟨oc, od, .func (PySem.W.fnOf "broken" "broken" (C8.fnArgs s_broken) (C8.fnBody s_broken) (C8.fnScope s_broken) .none kV doc pm an (.ref c) ct), osl⟩ ∧ PySem.W.codeIn K (.ref c) "broken" = true ∧
    mg "broken" = some (.ref f) ∧ PySem.W.keepIn K (.ref f) = true ∧ Binds K (PySem.W.fnOf "broken" "broken" (C8.fnArgs s_broken) (C8.fnBody s_broken) (C8.fnScope s_broken) .none kV doc pm an (.ref c) ct) ["bound", "visits"] []
theorem cal_broken {P0 c : Addr} (T : Blt mg) (rJ : C8.Met P w K mg base 1 cJ "room" (spF (RRoomJ cJ)) []) (rW : C8.Met P w K mg base 1 cW "room" (spF (RRoomW cW)) []) (c_totals_ahead : C8.Cal P w K mg base 1 "_totals_ahead" (spW RTot) [])
    (fsJ : CalC P w K mg base 3 "_first_start" frE (fun cl ws => spF (RFS (RExc cJ (RRoomJ cJ)) cl ws))) (fsW : CalC P w K mg base 3 "_first_start" frE (fun cl ws => spF (RFS (RExc cW (RRoomW cW)) cl ws))) (TB : LamX.TabB base mg c P0) (B : BrkAt K mg c) : C8.Cal P w K mg base 4 "broken" (spBrk [(P0, fun _ _ => qE)] cJ cW) [] := by
  obtain ⟨f, oc, od, kV, doc, pm, an, ct, osl, lk, hcd, gm, kp, bi⟩ := B.ex
  refine ⟨f, _, ["bound", "visits"], [], fn_of lk hcd sc_broken (fun vs H Q E h => ?_) (fun A outer s H vs Q E hr h => ?_), gm, kp, bi, .nil⟩
  · obtain ⟨b, l, bd, rs, r, rfl, _⟩ := h
    rfl
  · obtain ⟨b, l, bd, rs, r, rfl, hb, hP, ok, bok, hn, hT, hr0, q⟩ := h
    cases bd with
    | jar S F =>
      obtain ⟨dx, hb⟩ := hb
      obtain ⟨t, h1, h2⟩ := brk_body (E := E) T rJ c_totals_ahead fsJ TB hr hb rfl (fun a z H1 h1 => ⟨b, dx, S, F, a, z, rfl, h1, bok.2.2.1, bok.2.2.2, rfl⟩) hP ok bok hn hT hr0 q
      exact ⟨t, h1.nox, h2⟩
    | win M p =>
      obtain ⟨dx, hb⟩ := hb
      obtain ⟨t, h1, h2⟩ := brk_body (E := E) T rW c_totals_ahead fsW TB hr hb rfl (fun a z H1 h1 => ⟨b, dx, M, p, a, z, rfl, h1, rfl⟩) hP ok bok hn hT hr0 q
      exact ⟨t, h1.nox, h2⟩
end
/-! the law's own search: the same stretch -/
def LastB (rs : List (Int × Int)) (e : Nat) : Prop := e + 1 = rs.length ∨ mom rs e < mom rs (e + 1)
def LOver (bd : Bd) (rs : List (Int × Int)) (s e : Nat) : Prop := LastB rs e ∧ Over bd rs s e
def LPos (bd : Bd) (rs : List (Int × Int)) (s : Nat) : Prop := ∃ e, s ≤ e ∧ e < rs.length ∧ LOver bd rs s e
def LFirst (bd : Bd) (rs : List (Int × Int)) (r : Option (Int × Int)) : Prop := ∃ t : Option Nat, LFr (LPos bd rs) 0 rs.length t ∧ match t with
  | none => r = none
  | some s => ∃ e, s ≤ e ∧ e < rs.length ∧ LOver bd rs s e ∧ (∀ e', s ≤ e' → e' < e → ¬ LOver bd rs s e') ∧ r = some (mom rs s, mom rs e)
theorem grp {rs : List (Int × Int)} (ok : VOk rs) : ∀ (d e : Nat), e + 1 + d = rs.length → ∃ g, e ≤ g ∧ g < rs.length ∧ mom rs g = mom rs e ∧ LastB rs g
  | 0, e, h => ⟨e, Nat.le_refl _, by omega, rfl, .inl (by omega)⟩
  | d + 1, e, h => by
    have m := ok.mono e (e + 1) (by omega) (by omega)
    by_cases q : mom rs e < mom rs (e + 1)
    · exact ⟨e, Nat.le_refl _, by omega, rfl, .inr q⟩
    · obtain ⟨g, h1, h2, h3, h4⟩ := grp ok d (e + 1) (by omega)
      exact ⟨g, by omega, h2, by omega, h4⟩
theorem over_up {bd : Bd} {rs : List (Int × Int)} (ok : VOk rs) {s e g : Nat} (h : Over bd rs s e) (h1 : e ≤ g) (h2 : g < rs.length) (h3 : mom rs g = mom rs e) : Over bd rs s g := by
  obtain ⟨z, hz, pz⟩ := h
  have t := tot_le ok (i := e + 1) (j := g + 1) (by omega) (by omega)
  unfold excB at hz
  unfold Over excB
  rw [h3]
  cases e1 : roomB bd (mom rs s) (mom rs e) with
  | none =>
    rw [e1] at hz
    cases hz
  | some r =>
    rw [e1] at hz
    injection hz with hz
    dsimp only at hz
    exact ⟨tot rs (g + 1) - tot rs s - r, rfl, by omega⟩
theorem pos_iff {bd : Bd} {rs : List (Int × Int)} (ok : VOk rs) (s : Nat) : PosP bd rs s ↔ LPos bd rs s := by
  constructor
  · rintro ⟨e, z, h1, h2, h3, h4⟩
    obtain ⟨g, g1, g2, g3, g4⟩ := grp ok (rs.length - e - 1) e (by omega)
    exact ⟨g, by omega, g2, g4, over_up ok ⟨z, h3, h4⟩ g1 g2 g3⟩
  · rintro ⟨e, h1, h2, _, z, h3, h4⟩
    exact ⟨e, z, h1, h2, h3, h4⟩
theorem lfr_imp {p p' : Nat → Prop} (h : ∀ s, p s ↔ p' s) {lo n : Nat} {t : Option Nat} (k : LFr p lo n t) : LFr p' lo n t := by
  cases t with
  | none => exact fun s a b c => k s a b ((h s).mpr c)
  | some s => exact ⟨k.1, k.2.1, (h s).mp k.2.2.1, fun s' a b c => k.2.2.2 s' a b ((h s').mpr c)⟩
theorem first_one {bd : Bd} {rs : List (Int × Int)} (ok : VOk rs) {r r' : Option (Int × Int)} (h : BFst bd rs r) (k : LFirst bd rs r') : r = r' := by
  obtain ⟨t, h1, h2⟩ := h
  obtain ⟨t', k1, k2⟩ := k
  obtain rfl := lfr_one (lfr_imp (pos_iff ok) h1) k1
  cases t with
  | none => rw [h2, k2]
  | some s =>
    obtain ⟨e, a1, a2, a3, a4, rfl⟩ := h2
    obtain ⟨e', b1, b2, ⟨b3, b4⟩, b5, rfl⟩ := k2
    have c1 : e ≤ e' := Nat.le_of_not_lt fun z => a4 e' b1 z b4
    obtain ⟨g, g1, g2, g3, g4⟩ := grp ok (rs.length - e - 1) e (by omega)
    have c2 : e' ≤ g := Nat.le_of_not_lt fun z => b5 g (by omega) z ⟨g4, over_up ok a3 g1 g2 g3⟩
    have m1 := ok.mono e e' c1 b2
    have m2 := ok.mono e' g c2 g2
    rw [show mom rs e' = mom rs e by omega]
theorem RtW.imp {t : TS} {σ : L2.St} {H : Hp} {W W' : V → Hp → Prop} (h : RtW t σ H W) (k : ∀ v H1, W v H1 → W' v H1) : RtW t σ H W' := fun H1 e D q => h H1 e D fun v H2 e2 w => q v H2 e2 (k v H2 w)
/-! a block that goes on or hands back, as b says -/
def GoOr (u : TS) (σ : L2.St) (H : Hp) (R : L2.St → Prop) (W : V → Hp → Prop) (b : Bool) : Prop := (b = false → NxP u σ H R) ∧ (b = true → RtW u σ H W)
theorem nxp_seq {t u : TS} {σ σ' : L2.St} {H : Hp} {R : L2.St → Prop} (h : Nx t σ H σ') (k : NxP u σ' H R) : NxP (tSeq t u) σ H R := nxp_seqP (nxp_of (P := fun z => z = σ') h rfl) fun z e => by
  subst e
  exact k
theorem go_seq {t u : TS} {σ σ' : L2.St} {H : Hp} {R : L2.St → Prop} {W : V → Hp → Prop} {b : Bool} (h : Nx t σ H σ') (k : GoOr u σ' H R W b) : GoOr (tSeq t u) σ H R W b := ⟨fun z => nxp_seq h (k.1 z), fun z => rtw_seq h (k.2 z)⟩
theorem go_if {c : TT} {t u : TS} {σ : L2.St} {H : Hp} {R : L2.St → Prop} {W : V → Hp → Prop} {b : Bool} (h : EvT c σ H b) (h1 : b = true → RtW t σ H W) (h2 : b = false → NxP u σ H R) : GoOr (tIfS c t u) σ H R W b :=
  ⟨fun z => nxp_if h (fun w => by rw [z] at w; cases w) fun _ => h2 z, fun z => rtw_if h (fun _ => h1 z) fun w => by rw [z] at w; cases w⟩
def RRoomL (vs : List V) (H : Hp) (v : V) : Prop := ∃ p bd a z, vs = [.ref p, .int a, .int z] ∧ H p = some (.tup (Bd.tup bd)) ∧ bd.ok ∧ v = opV (roomB bd a z)
def RLF (vs : List V) (H : Hp) (W : V → Hp → Prop) : Prop := ∃ p l bd rs, vs = [.ref p, .ref l] ∧ H p = some (.tup (Bd.tup bd)) ∧ PairsT H l rs ∧ bd.ok ∧ rs.length ≤ 300 ∧ W = fun v H2 => ∃ r, LFirst bd rs r ∧ VR r v H2
section
variable {P : Program} {w : World} {K : PySem.W.Frag} {mg : Str → Option Value} {base : Heap}
theorem cal_Lroom {f : Addr} {fd : FuncData} (F : C8.Def K mg "_law_room" s_Lroom f fd) (b : Binds K fd ["_law_bound_here", "_law_first_here", "_law_last"] []) : C8.Cal P w K mg base 1 "_law_room" (spF RRoomL) [] := by
  refine calF F b sc_Lroom (fun vs H v h => ?_) (fun cdv A outer s H vs v E hr h => ?_)
  · obtain ⟨p, bd, a, z, rfl, _⟩ := h
    rfl
  · obtain ⟨p, bd, a, z, rfl, hp, ok, rfl⟩ := h
    refine ⟨_, (pss_cons (ps_if (pt_cmpR op_eq (pe_ix ix_tup (pv 0) pe_int (fun _ _ => rfl)) pe_str (nomark _))
    (pss_one (ps_ret (pe_op op_add (pe_ix ix_tup (pv 0) pe_int (fun _ _ => rfl)) (pe_op op_mul (pe_ix ix_tup (pv 0) pe_int (fun _ _ => rfl)) (pe_op op_sub (pv 2) (pv 1))))))
    pss_nil)
  (pss_cons (ps_if (pt_cmpR op_lt (pe_op op_sub (pv 2) (pv 1)) (pe_ix ix_tup (pv 0) pe_int (fun _ _ => rfl)) (nomark _))
    (pss_one (ps_ret (pe_ix ix_tup (pv 0) pe_int (fun _ _ => rfl))))
    pss_nil)
  (pss_one (ps_ret pe_non)))), ?_⟩
    have hT : SqT K H p bd.tup := st_of hp
    cases bd with
    | jar S F =>
      have e1 : atI (Bd.tup (.jar S F)) 1 = some (.int S) := rfl
      have e2 : atI (Bd.tup (.jar S F)) 2 = some (.int F) := rfl
      have b1 : 0 ≤ F := ok.2.2.1
      have b2 : F ≤ 1000000000 := ok.2.2.2
      refine rt_ifseq (b := true) (et_is (et_test (ev_op (ev_ixT (v := .str "jar") (ev_var rfl) ev_c hT rfl) ev_c (rv_eq rfl))) dj) (fun _ => ?_) fun z => by cases z
      exact rt_ret (ev_op (ev_ixT (ev_var rfl) ev_c hT e1) (ev_op (ev_ixT (ev_var rfl) ev_c hT e2) (ev_op (ev_var rfl) (ev_var rfl) rv_I0) (rv_I (.inl ⟨by omega, by omega⟩))) rv_I0)
    | win M p =>
      have e1 : atI (Bd.tup (.win M p)) 1 = some (.int M) := rfl
      have e2 : atI (Bd.tup (.win M p)) 2 = some (.int p) := rfl
      refine rt_ifseq (b := false) (et_is (et_test (ev_op (ev_ixT (v := .str "window") (ev_var rfl) ev_c hT rfl) ev_c (rv_eq rfl))) dw) (fun z => by cases z) fun _ => ?_
      refine rt_ifseq (b := decide (z - a < p)) (et_test (ev_op (ev_op (ev_var rfl) (ev_var rfl) rv_I0) (ev_ixT (ev_var rfl) ev_c hT e2) rv_I0)) (fun g => ?_) fun g => ?_
      · unfold roomB
        simp only [if_pos (of_decide_eq_true g)]
        exact rt_ret (ev_ixT (ev_var rfl) ev_c hT e1)
      · unfold roomB
        simp only [if_neg (of_decide_eq_false g)]
        exact rt_ret ev_c
theorem rRoomL {H : Hp} {p : Addr} {bd : Bd} {a z : Int} (hp : H p = some (.tup bd.tup)) (ok : bd.ok) : ∀ H1, Ex H H1 → RRoomL [.ref p, .int a, .int z] H1 (opV (roomB bd a z)) := fun H1 e => ⟨p, bd, a, z, rfl, e _ _ hp, ok, rfl⟩
def lfS (p l : Addr) (o2 o3 o4 o5 o6 : Option V) : L2.St := [some (.ref p), some (.ref l), o2, o3, o4, o5, o6]
theorem cal_Lfirst {f : Addr} {fd : FuncData} (T : Blt mg) (c_Lroom : C8.Cal P w K mg base 1 "_law_room" (spF RRoomL) []) (F : C8.Def K mg "_law_first" s_Lfirst f fd) (b : Binds K fd ["_law_bound_here", "_law_visits"] []) : C8.Cal P w K mg base 2 "_law_first" (spW RLF) [] := by
  refine calW F b sc_Lfirst (fun vs H v h => ?_) (fun cdv A outer s H vs W E hr h => ?_)
  · obtain ⟨p, l, bd, rs, rfl, _⟩ := h
    rfl
  · obtain ⟨p, l, bd, rs, rfl, hp, hP, bok, hn, rfl⟩ := h
    refine ⟨_, (pss_cons (ps_for PassesOwn.never rfl (pi_range1 rfl T.b_range (pa_cons (pe_callB call_len_seq (by rfl) T.b_len boot_len (pa_cons (pv 1) pa_nil)) pa_nil)) (pg_name (i := 2) sc_Lfirst.nd rfl (Or.inl rfl))
    (pss_cons (ps_set (i := 3) sc_Lfirst.nd rfl (Or.inl rfl) pe_int)
    (pss_one (ps_for PassesOwn.never rfl (pi_range2 rfl T.b_range (pa_cons (pv 2) (pa_cons (pe_callB call_len_seq (by rfl) T.b_len boot_len (pa_cons (pv 1) pa_nil)) pa_nil))) (pg_name (i := 4) sc_Lfirst.nd rfl (Or.inl rfl))
      (pss_cons (ps_set (i := 3) sc_Lfirst.nd rfl (Or.inl rfl) (pe_op op_add (pv 3) (pe_ix ix_tup (pe_ix ix_list (pv 1) (pv 4) (fun _ _ => rfl)) pe_int (fun _ _ => rfl))))
      (pss_cons (ps_set (i := 5) sc_Lfirst.nd rfl (Or.inl rfl) (pe_or (pe_cmpR op_eq (pe_op op_add (pv 4) pe_int) (pe_callB call_len_seq (by rfl) T.b_len boot_len (pa_cons (pv 1) pa_nil)) (nomark _)) (pe_one (pe_cmpR op_gt (pe_ix ix_tup (pe_ix ix_list (pv 1) (pe_op op_add (pv 4) pe_int) (fun _ _ => rfl)) pe_int (fun _ _ => rfl)) (pe_ix ix_tup (pe_ix ix_list (pv 1) (pv 4) (fun _ _ => rfl)) pe_int (fun _ _ => rfl)) (nomark _)))))
      (pss_cons (ps_set (i := 6) sc_Lfirst.nd rfl (Or.inl rfl) (C8.pe_c c_Lroom hr (by decide) rfl (pa_cons (pv 0) (pa_cons (pe_ix ix_tup (pe_ix ix_list (pv 1) (pv 2) (fun _ _ => rfl)) pe_int (fun _ _ => rfl)) (pa_cons (pe_ix ix_tup (pe_ix ix_list (pv 1) (pv 4) (fun _ _ => rfl)) pe_int (fun _ _ => rfl)) pa_nil)))))
      (pss_one (ps_if (PW.pt (pw_and (pt_val (pv 5)) (pw_and (pt_cmp (pc_notN (pv 6))) (pw_and1 (pt_cmpR op_gt (pv 3) (pv 6) (nomark _))))))
        (pss_one (ps_ret (pe_tup (pa_cons (pe_ix ix_tup (pe_ix ix_list (pv 1) (pv 2) (fun _ _ => rfl)) pe_int (fun _ _ => rfl)) (pa_cons (pe_ix ix_tup (pe_ix ix_list (pv 1) (pv 4) (fun _ _ => rfl)) pe_int (fun _ _ => rfl)) pa_nil)))))
        pss_nil)))))))))
  (pss_one (ps_ret pe_non))), ?_⟩
    refine rtwp_for (fun i σ => (∃ o2 o3 o4 o5 o6, σ = lfS p l o2 o3 o4 o5 o6) ∧ ∀ s, s < i → ¬ LPos bd rs s) ⟨⟨_, _, _, _, _, rfl⟩, fun s a => by omega⟩ (ei_r1 (n := (rs.length : Int)) (ea_cons (ev_lenP (K := K) (ev_var rfl) hP) ea_nil) (by omega) (by omega)) (fun i σ hi ⟨⟨o2, o3, o4, o5, o6, hσ⟩, hno⟩ => ?_) fun σ ⟨⟨o2, o3, o4, o5, o6, hσ⟩, hno⟩ => ?_
    · subst hσ
      rw [Int.zero_add]
      rw [Int.toNat_natCast] at hi
      -- a turn of the inner loop
      have hmany : ((rs.length : Int) - (i : Int)).toNat = rs.length - i := by omega
      have turn : ∀ (j : Nat) (o4 o5 o6 : Option V), i + j < rs.length → ∃ b : Bool, (b = true ↔ LOver bd rs i (i + j)) ∧ GoOr
          (tSeq (tAsg (tOp (rI0 fun i j => V.int (i + j)) (tVar 3) (tOp (rIxT K) (tOp (rIxL K) (tVar 1) (tVar 4)) (tC (.int 1)))) (gName 3)) (tSeq (tAsg (tOrV (tOp rEq (tOp (rI0 fun i j => V.int (i + j)) (tVar 4) (tC (.int 1))) (tCB (fun xs H Q => ∃ p ys, xs = [.ref p] ∧ (SqL K H p ys ∨ SqT K H p ys) ∧ Q (.int ys.length) H) (tCons (tVar 1) tNil))) (tOp (rI0 fun i j => V.bl (decide (i > j))) (tOp (rIxT K) (tOp (rIxL K) (tVar 1) (tOp (rI0 fun i j => V.int (i + j)) (tVar 4) (tC (.int 1)))) (tC (.int 0))) (tOp (rIxT K) (tOp (rIxL K) (tVar 1) (tVar 4)) (tC (.int 0))))) (gName 5))
            (tSeq (tAsg (tCall (spF RRoomL) [] C8.E0 (tCons (tVar 0) (tCons (tOp (rIxT K) (tOp (rIxL K) (tVar 1) (tVar 2)) (tC (.int 0))) (tCons (tOp (rIxT K) (tOp (rIxL K) (tVar 1) (tVar 4)) (tC (.int 0))) tNil)))) (gName 6))
              (tIfS (tAnd (tB (tVar 5)) (tAnd (tTest (tNotN (tVar 6))) (tTest (tOp (rI0 fun i j => V.bl (decide (i > j))) (tVar 3) (tVar 6))))) (tRet (tTup (tCons (tOp (rIxT K) (tOp (rIxL K) (tVar 1) (tVar 2)) (tC (.int 0))) (tCons (tOp (rIxT K) (tOp (rIxL K) (tVar 1) (tVar 4)) (tC (.int 0))) tNil)))) tNext))))
          (lfS p l (some (.int (i : Int))) (some (.int (tot rs (i + j) - tot rs i))) (some (.int ((i + j : Nat) : Int))) o5 o6) H
          (fun σ => ∃ o4 o5 o6, σ = lfS p l (some (.int (i : Int))) (some (.int (tot rs (i + (j + 1)) - tot rs i))) o4 o5 o6)
          (fun v H2 => ∃ q, v = .ref q ∧ H2 q = some (.tup [.int (mom rs i), .int (mom rs (i + j))])) b := by
        intro j o4 o5 o6 hj
        have gi : rs[(i : Int).toNat]? = some (rs.getD i (0, 0)) := by
          rw [Int.toNat_natCast]
          exact getD_some hi
        have gj : rs[((i + j : Nat) : Int).toNat]? = some (rs.getD (i + j) (0, 0)) := by
          rw [Int.toNat_natCast]
          exact getD_some hj
        let lb : Bool := decide (V.int (((i + j : Nat) : Int) + 1) = V.int (rs.length : Int)) || decide (mom rs (i + j + 1) > mom rs (i + j))
        have hlb : lb = true ↔ LastB rs (i + j) := by
          show (_ || _) = true ↔ _
          rw [Bool.or_eq_true, decide_eq_true_eq, decide_eq_true_eq]
          unfold LastB
          constructor
          · rintro (z | z)
            · injection z with z
              exact .inl (by omega)
            · exact .inr z
          · rintro (z | z)
            · exact .inl (congrArg V.int (by omega))
            · exact .inr z
        have eu : tot rs (i + (j + 1)) - tot rs i = (tot rs (i + j) - tot rs i) + cst rs (i + j) := by
          show tot rs (i + j) + cst rs (i + j) - tot rs i = _
          omega
        have st1 : ∀ {σ : L2.St}, σ = lfS p l (some (.int (i : Int))) (some (.int (tot rs (i + j) - tot rs i))) (some (.int ((i + j : Nat) : Int))) o5 o6 → Nx (tAsg (tOp (rI0 fun i j => V.int (i + j)) (tVar 3) (tOp (rIxT K) (tOp (rIxL K) (tVar 1) (tVar 4)) (tC (.int 1)))) (gName 3)) σ H (lfS p l (some (.int (i : Int))) (some (.int (tot rs (i + (j + 1)) - tot rs i))) (some (.int ((i + j : Nat) : Int))) o5 o6) := fun hσ => by
          subst hσ
          rw [eu]
          exact nx_asg (ev_op (ev_var rfl) (ev_pair1 (ev_var rfl) (ev_var rfl) hP (by omega) gj) rv_I0)
        cases e1 : roomB bd (mom rs i) (mom rs (i + j)) with
        | none =>
          refine ⟨lb && (false && true), ⟨fun z => by simp at z, fun ⟨_, z, hz, _⟩ => by
            unfold excB at hz
            rw [e1] at hz
            cases hz⟩, ?_⟩
          refine go_seq (st1 rfl) (go_seq (nx_asg (v := .bl lb) (ev_orV (ev_op (ev_op (ev_var rfl) ev_c rv_I0) (ev_lenP (ev_var rfl) hP) (rv_eq rfl)) fun hz => ?_)) (go_seq (nx_asg (v := .non) (ev_is (ev_callF (ea_cons (ev_var rfl) (ea_cons (ev_pair0 (ev_var rfl) (ev_var rfl) hP (by omega) gi) (ea_cons (ev_pair0 (ev_var rfl) (ev_var rfl) hP (by omega) gj) ea_nil))) (rRoomL hp bok)) (congrArg opV e1))) (go_if (et_and (et_B (ev_var rfl)) fun _ => et_and (a := false) (et_is (et_test (ev_notN (ev_var (v := .non) rfl))) rfl) fun z => by cases z) (fun z => by simp at z) fun _ => nxp_of nx_next ⟨_, _, _, rfl⟩)))
          have hj1 : i + j + 1 < rs.length := by
            have := of_decide_eq_false hz
            exact Nat.lt_of_le_of_ne (by omega) fun z => this (congrArg V.int (by omega))
          exact ev_op (ev_pair0 (ev_var rfl) (ev_op (ev_var rfl) ev_c rv_I0) hP (by omega) (by rw [show (((i + j : Nat) : Int) + 1).toNat = i + j + 1 by omega]; exact getD_some hj1)) (ev_pair0 (ev_var rfl) (ev_var rfl) hP (by omega) gj) rv_I0
        | some r =>
          refine ⟨lb && (true && decide (tot rs (i + (j + 1)) - tot rs i > r)), ?_, ?_⟩
          · rw [Bool.true_and, Bool.and_eq_true, hlb, decide_eq_true_eq]
            unfold LOver Over excB
            rw [e1]
            constructor
            · exact fun ⟨z1, z2⟩ => ⟨z1, _, rfl, by show 0 < tot rs (i + j + 1) - tot rs i - r; have z3 : tot rs (i + j + 1) - tot rs i > r := z2; omega⟩
            · exact fun ⟨z1, z, hz, pz⟩ => ⟨z1, by
                injection hz with hz
                dsimp only at hz
                show tot rs (i + j + 1) - tot rs i > r
                omega⟩
          · refine go_seq (st1 rfl) (go_seq (nx_asg (v := .bl lb) (ev_orV (ev_op (ev_op (ev_var rfl) ev_c rv_I0) (ev_lenP (ev_var rfl) hP) (rv_eq rfl)) fun hz => ?_)) (go_seq (nx_asg (v := .int r) (ev_is (ev_callF (ea_cons (ev_var rfl) (ea_cons (ev_pair0 (ev_var rfl) (ev_var rfl) hP (by omega) gi) (ea_cons (ev_pair0 (ev_var rfl) (ev_var rfl) hP (by omega) gj) ea_nil))) (rRoomL hp bok)) (congrArg opV e1))) (go_if (et_and (et_B (ev_var rfl)) fun _ => et_and (a := true) (et_is (et_test (ev_notN (ev_var (v := .int r) rfl))) rfl) fun _ => et_test (ev_op (ev_var rfl) (ev_var rfl) rv_I0)) (fun _ => rtw_ret (evw_tup (eu_tup (ea_cons (ev_pair0 (ev_var rfl) (ev_var rfl) hP (by omega) gi) (ea_cons (ev_pair0 (ev_var rfl) (ev_var rfl) hP (by omega) gj) ea_nil)) (by simp only [List.length_cons, List.length_nil]; omega)))) fun _ => nxp_of nx_next ⟨_, _, _, rfl⟩)))
            have hj1 : i + j + 1 < rs.length := by
              have := of_decide_eq_false hz
              exact Nat.lt_of_le_of_ne (by omega) fun z => this (congrArg V.int (by omega))
            exact ev_op (ev_pair0 (ev_var rfl) (ev_op (ev_var rfl) ev_c rv_I0) hP (by omega) (by rw [show (((i + j : Nat) : Int) + 1).toNat = i + j + 1 by omega]; exact getD_some hj1)) (ev_pair0 (ev_var rfl) (ev_var rfl) hP (by omega) gj) rv_I0
      let Iv2 : Nat → L2.St → Prop := fun j σ => (∃ o4 o5 o6, σ = lfS p l (some (.int (i : Int))) (some (.int (tot rs (i + j) - tot rs i))) o4 o5 o6) ∧ ∀ e, i ≤ e → e < i + j → ¬ LOver bd rs i e
      have iv0 : Iv2 0 (lfS p l (some (.int (i : Int))) (some (.int 0)) o4 o5 o6) := ⟨⟨o4, o5, o6, by
        have z : tot rs (i + 0) - tot rs i = 0 := by
          show tot rs i - tot rs i = 0
          omega
        rw [z]⟩, fun e a b => by omega⟩
      have its : EvI (iRng2 (tCons (tVar 2) (tCons (tCB (fun xs H Q => ∃ p ys, xs = [.ref p] ∧ (SqL K H p ys ∨ SqT K H p ys) ∧ Q (.int ys.length) H) (tCons (tVar 1) tNil)) tNil))) (lfS p l (some (.int (i : Int))) (some (.int 0)) o4 o5 o6) H (fun j => .int ((i : Int) + (j : Int))) (rs.length - i) := by
        have z := ei_r2 (σ := lfS p l (some (.int (i : Int))) (some (.int 0)) o4 o5 o6) (a := (i : Int)) (n := (rs.length : Int)) (ea_cons (ev_var (i := 2) rfl) (ea_cons (ev_lenP (K := K) (ev_var (i := 1) rfl) hP) ea_nil)) ⟨by omega, by omega, by omega, by omega⟩
        rw [hmany] at z
        exact z
      have more : ∀ {j : Nat}, (∀ e, i ≤ e → e < i + j → ¬ LOver bd rs i e) → ¬ LOver bd rs i (i + j) → ∀ e, i ≤ e → e < i + (j + 1) → ¬ LOver bd rs i e := fun {j} h1 h2 e a b => by
        by_cases q : e = i + j
        · rw [q]
          exact h2
        · exact h1 e a (by omega)
      by_cases hL : LPos bd rs i
      · refine .inr (grtw_name2 (rtw_seq (nx_asg (v := .int 0) ev_c) (rtwp_for0 Iv2 iv0 its (fun j σ hj ⟨⟨p4, p5, p6, hσ⟩, hn2⟩ => ?_) fun σ ⟨_, hn2⟩ => ?_)))
        · subst hσ
          obtain ⟨bb, hb, go⟩ := turn j p4 p5 p6 (by omega)
          cases bb with
          | false => exact .inl (gnxp_name ((go.1 rfl).imp fun σ hσ => ⟨hσ, more hn2 fun z => by cases hb.mpr z⟩))
          | true => exact .inr (grtw_name2 ((go.2 rfl).imp fun v H1 ⟨q, ev, hq⟩ => ⟨some (mom rs i, mom rs (i + j)), ⟨some i, ⟨Nat.zero_le _, hi, hL, fun s' _ h => hno s' h⟩, i + j, by omega, by omega, hb.mp rfl, fun e a b => hn2 e a b, rfl⟩, q, ev, hq⟩))
        · obtain ⟨e, e1, e2, e3⟩ := hL
          exact hn2 e e1 (by omega) e3
      · refine .inl (gnxp_name (nxp_seq (nx_asg (v := .int 0) ev_c) (NxP.imp (nxp_for Iv2 iv0 its fun j σ hj ⟨⟨p4, p5, p6, hσ⟩, hn2⟩ => ?_) fun σ ⟨⟨p4, p5, p6, hσ⟩, _⟩ => ⟨⟨_, _, _, _, _, hσ⟩, fun s hs => ?_⟩)))
        · subst hσ
          obtain ⟨bb, hb, go⟩ := turn j p4 p5 p6 (by omega)
          cases bb with
          | false => exact gnxp_name ((go.1 rfl).imp fun σ hσ => ⟨hσ, more hn2 fun z => by cases hb.mpr z⟩)
          | true => exact absurd ⟨i + j, by omega, by omega, hb.mp rfl⟩ hL
        · by_cases q : s = i
          · rw [q]
            exact hL
          · exact hno s (by omega)
    · subst hσ
      refine rtw_ret (evw_v ev_c fun H1 e => ⟨none, ⟨none, fun s _ h => hno s (by rw [Int.toNat_natCast]; exact h), rfl⟩, rfl⟩)
end
/-! what was found, held against what was due -/
def RRight3 (vs : List V) (H : Hp) (v : V) : Prop := ∃ v1 v2 r, vs = [v1, v2] ∧ VR r v1 H ∧ VR r v2 H ∧ v = .bl true
theorem VR.mono {r : Option (Int × Int)} {v : V} {H H' : Hp} (e : Ex H H') (h : VR r v H) : VR r v H' := by
  cases r with
  | none => exact h
  | some q =>
    obtain ⟨p, h1, h2⟩ := h
    exact ⟨p, h1, e _ _ h2⟩
theorem ktt {K : PySem.W.Frag} : PySem.W.kitOne K (.type "tuple") (.type "tuple") = some true := kit_ty (by decide +kernel)
section
variable {P : Program} {w : World} {K : PySem.W.Frag} {mg : Str → Option Value} {base : Heap}
theorem cal_Lright3 {f : Addr} {fd : FuncData} (T : Blt mg) (F : C8.Def K mg "_law_right" s_Lright f fd) (b : Binds K fd ["_law_found", "_law_due"] []) : C8.Cal P w K mg base 1 "_law_right" (spF RRight3) [] := by
  refine calF F b sc_Lright (fun vs H v h => ?_) (fun cdv A outer s H vs v E hr h => ?_)
  · obtain ⟨v1, v2, r, rfl, _⟩ := h
    rfl
  · obtain ⟨v1, v2, r, rfl, h1, h2, rfl⟩ := h
    refine ⟨_, (pss_cons (ps_if (pt_cmp (pc_isN (pv 1)))
    (pss_one (ps_ret (pe_cmp (pc_isN (pv 0)) rfl)))
    pss_nil)
  (pss_one (ps_ret (pe_and (pe_callB call_isi (by rfl) T.b_isinstance boot_isinstance (pa_cons (pv 0) (pa_cons (pe_bltn (v := .ty "tuple") (by rfl) T.b_tuple boot_tuple rfl) pa_nil))) (pe_one (pe_cmpR (op_eqD hr.units) (pv 0) (pv 1) (nomark _))))))), ?_⟩
    cases r with
    | none =>
      obtain rfl : v1 = .non := h1
      obtain rfl : v2 = .non := h2
      exact rt_ifseq (b := true) (et_test (ev_isN (ev_var (v := .non) rfl))) (fun _ => rt_ret (ev_is (ev_isN (ev_var (v := .non) rfl)) rfl)) fun z => by cases z
    | some q =>
      obtain ⟨p1, rfl, h1⟩ := h1
      obtain ⟨p2, rfl, h2⟩ := h2
      refine rt_ifseq (b := false) (et_test (ev_isN (ev_var (v := .ref p2) rfl))) (fun z => by cases z) fun _ => ?_
      refine rt_ret (ev_andV (a := true) (b := true) (ev_isi (ev_var rfl) ev_c (.ty "tuple") (fun H1 e => .base (.tup (e _ _ h1))) ktt) fun _ => ev_op (ev_var rfl) (ev_var rfl) ?_)
      have z := eqv_tints [q.1, q.2] [q.1, q.2]
      rw [decide_eq_true rfl] at z
      have rr := rv_eqD (K := K) (x := .ref p1) (y := .ref p2) (H := H) (fun H1 e => .tup (st_of (e _ _ h1)) (dp_ints [q.1, q.2])) (fun H1 e => .tup (st_of (e _ _ h2)) (dp_ints [q.1, q.2])) (shaped_tints [q.1, q.2]) (shaped_tints [q.1, q.2])
      rw [z] at rr
      exact rr
end
/-! the law -/
def mul4 : Bd → Bd
  | .jar s f => .jar (s * 4) f
  | .win m s => .win (m * 4) s
theorem boundV_ok {c sc : Int} (h : 0 ≤ c) (h1 : 1 ≤ sc) (h2 : sc ≤ 40000000) : (boundV c sc).ok ∧ (mul4 (boundV c sc)).ok := by
  have b := bound_in h h1 h2
  cases e : boundV c sc with
  | jar s f =>
    rw [e] at b
    have b1 : 1 ≤ s := b.1
    have b2 : s ≤ 1000000000 := b.2.1
    have b3 : 0 ≤ f := b.2.2.1
    have b4 : f ≤ 1000000000 := b.2.2.2.1
    exact ⟨⟨b1, by omega, b3, b4⟩, ⟨by omega, by omega, b3, b4⟩⟩
  | win m s =>
    rw [e] at b
    have b1 : 1 ≤ m := b.1
    have b2 : m ≤ 1000000000 := b.2.1
    have b3 : 1 ≤ s := b.2.2.2.2 m s rfl
    have b4 : s ≤ 1000000000 := b.2.2.2.1
    exact ⟨⟨b1, by omega, b3, by omega⟩, ⟨by omega, by omega, b3, by omega⟩⟩
theorem mom_lt (vs : List (Int × Int)) (q : Int × Int) {i : Nat} (h : i < vs.length) : mom (vs ++ [q]) i = mom vs i ∧ cst (vs ++ [q]) i = cst vs i := by
  have e : (vs ++ [q]).getD i (0, 0) = vs.getD i (0, 0) := by
    rw [List.getD_eq_getElem?_getD, List.getD_eq_getElem?_getD, List.getElem?_append_left h]
  unfold mom cst
  rw [e]
  exact ⟨rfl, rfl⟩
theorem mom_eq (vs : List (Int × Int)) (q : Int × Int) : mom (vs ++ [q]) vs.length = q.1 ∧ cst (vs ++ [q]) vs.length = q.2 := by
  have e : (vs ++ [q]).getD vs.length (0, 0) = q := by
    rw [List.getD_eq_getElem?_getD, List.getElem?_append_right (Nat.le_refl _), Nat.sub_self]
    rfl
  unfold mom cst
  rw [e]
  exact ⟨rfl, rfl⟩
theorem len_snoc (vs : List (Int × Int)) (q : Int × Int) : (vs ++ [q]).length = vs.length + 1 := by
  rw [List.length_append]
  rfl
theorem VOk.snoc {vs : List (Int × Int)} {t c : Int} (h : VOk vs) (hu : ∀ i, i < vs.length → mom vs i ≤ t) (hc : 1 ≤ c) : VOk (vs ++ [(t, c)]) := by
  constructor
  · intro i hi
    rw [len_snoc] at hi
    by_cases e : i = vs.length
    · subst e
      rw [(mom_eq vs (t, c)).2]
      exact hc
    · rw [(mom_lt vs (t, c) (show i < vs.length by omega)).2]
      exact h.cost i (by omega)
  · intro i j hij hj
    rw [len_snoc] at hj
    by_cases e : j = vs.length
    · subst e
      rw [(mom_eq vs (t, c)).1]
      by_cases e2 : i = vs.length
      · subst e2
        rw [(mom_eq vs (t, c)).1]
        exact Int.le_refl _
      · rw [(mom_lt vs (t, c) (show i < vs.length by omega)).1]
        exact hu i (by omega)
    · rw [(mom_lt vs (t, c) (show j < vs.length by omega)).1, (mom_lt vs (t, c) (show i < vs.length by omega)).1]
      exact h.mono i j hij (by omega)
theorem VOk.take {vs : List (Int × Int)} (h : VOk vs) (k : Nat) : VOk (vs.take k) := by
  have at_ : ∀ {i : Nat}, i < (vs.take k).length → i < vs.length ∧ (vs.take k).getD i (0, 0) = vs.getD i (0, 0) := fun {i} hi => by
    rw [List.length_take] at hi
    refine ⟨by omega, ?_⟩
    rw [List.getD_eq_getElem?_getD, List.getD_eq_getElem?_getD, List.getElem?_take_of_lt (by omega)]
  constructor
  · intro i hi
    obtain ⟨h1, h2⟩ := at_ hi
    unfold cst
    rw [h2]
    exact h.cost i h1
  · intro i j hij hj
    obtain ⟨h1, h2⟩ := at_ hj
    obtain ⟨h3, h4⟩ := at_ (show i < (vs.take k).length by omega)
    unfold mom
    rw [h2, h4]
    exact h.mono i j hij h1
theorem BdAt.mono {cJ cW : Addr} {bd : Bd} {y : Addr} {H H' : Hp} (e : Ex H H') (h : BdAt cJ cW bd y H) : BdAt cJ cW bd y H' := by
  cases bd with
  | jar s f =>
    obtain ⟨d, h⟩ := h
    exact ⟨d, e _ _ h⟩
  | win s f =>
    obtain ⟨d, h⟩ := h
    exact ⟨d, e _ _ h⟩
/-! lists of pairs compared -/
def prD (q : Int × Int) : PyData := .tuple [.int q.1, .int q.2]
theorem dp_prs {K : PySem.W.Frag} {H : Hp} {ps : List Addr} {rs : List (Int × Int)} (h : Prs H ps rs) : DpAll K H (ps.map V.ref) (rs.map prD) := by
  induction h with
  | nil => exact .nil
  | cons h1 _ ih => exact .cons (.tup (st_of h1) (dp_ints [_, _])) ih
theorem lay_prs : ∀ rs : List (Int × Int), PyData.canLayAll0 (rs.map prD) = true
  | [] => by simp only [List.map_nil, PyData.canLayAll0]
  | q :: rs => by
    have z := lay_ints [q.1, q.2]
    simp only [List.map_cons, List.map_nil] at z
    simp only [List.map_cons, PyData.canLayAll0, prD, PyData.canLay0, lay_prs rs, z, Bool.and_self]
theorem dep_prs : ∀ rs : List (Int × Int), PyData.depthAll (rs.map prD) ≤ 1
  | [] => by simp only [List.map_nil, PyData.depthAll]; omega
  | q :: rs => by
    have z := dep_ints [q.1, q.2]
    simp only [List.map_cons, List.map_nil] at z
    have y := dep_prs rs
    simp only [List.map_cons, PyData.depthAll, prD, PyData.depth, z]
    omega
theorem eqv_prs : ∀ rs : List (Int × Int), PyData.eqvAll (rs.map prD) (rs.map prD) = true
  | [] => by simp [PyData.eqvAll]
  | q :: rs => by
    have z := eqv_tints [q.1, q.2] [q.1, q.2]
    rw [decide_eq_true rfl] at z
    simp only [List.map_cons, List.map_nil] at z
    simp only [List.map_cons, PyData.eqvAll, prD, z, eqv_prs rs, Bool.and_self]
theorem rv_nePrs {K : PySem.W.Frag} {H : Hp} {a b : Addr} {ps : List Addr} {rs : List (Int × Int)} (ha : H a = some (.lst (ps.map V.ref))) (hb : H b = some (.lst (ps.map V.ref))) (h : Prs H ps rs) : RV (rNeD K) (.ref a) (.ref b) H (.bl false) := by
  have sh : PySem.SeqAt.shaped (.list (rs.map prD)) = true := shaped_list (lay_prs rs) (by have := dep_prs rs; omega)
  have z := rv_neD (K := K) (x := .ref a) (y := .ref b) (H := H) (fun H1 e => .lst (sq_of (e _ _ ha)) (dp_prs (h.mono e))) (fun H1 e => .lst (sq_of (e _ _ hb)) (dp_prs (h.mono e))) sh sh
  have e1 : PyData.eqv (.list (rs.map prD)) (.list (rs.map prD)) = true := by simp only [PyData.eqv, eqv_prs]
  rw [e1] at z
  exact z
theorem cut_half (ps : List Addr) (n : Nat) (h : ps.length = n) : cutV (ps.map V.ref) none (some ((n : Int) / 2)) = (ps.take (n / 2)).map V.ref := by
  unfold cutV
  rw [show (n : Int) / 2 = ((n / 2 : Nat) : Int) by omega, HT.sIx_nat, HT.sIx_none, List.drop_zero, List.length_map, Nat.sub_zero, h, List.map_take, show min (n / 2) n = n / 2 by omega]
/-- a call of broken -/
theorem brk_call {T : List NdefX.NTab} {cJ cW l : Addr} {σ : L2.St} {H : Hp} {te tb : TE} {bd : Bd} {rs : List (Int × Int)} {r : Option (Int × Int)} {Q : VK} (hm : EvW te σ H (fun v H2 => ∃ y, v = .ref y ∧ BdAt cJ cW bd y H2)) (hv : Ev tb σ H (.ref l)) (hP : PairsT H l rs) (ok : VOk rs) (bok : bd.ok) (hn : rs.length ≤ 300)
    (hT : NdefX.TabsN T H) (hr : BFst bd rs r) (q : ∀ v H', LamX.ExtN H H' → NdefX.TabsN T H' → VR r v H' → Q v H') : tCall (spBrk T cJ cW) [] C8.E0 (tCons te (tCons tb tNil)) σ H Q := by
  refine hm H (Ex.refl H) _ fun v H1 e1 ⟨y, ev, hy⟩ => ?_
  subst ev
  refine hv H1 e1 _ fun H2 e2 => ?_
  exact ⟨y, l, bd, rs, r, rfl, hy.mono e2, hP.mono (e1.trans e2), ok, bok, hn, hT.ext (e1.trans e2), hr, fun v H' e t w => q v H' ((Ex.extN (e1.trans e2)).trans e) t w⟩
theorem ev_callFW {σ : L2.St} {H : Hp} {R : List V → Hp → V → Prop} {t1 t2 : TE} {E : XK} {v1 v : V} {W : V → Hp → Prop} (h1 : Ev t1 σ H v1) (h2 : EvW t2 σ H W) (hR : ∀ v2 H1 H2, Ex H H1 → W v2 H1 → Ex H1 H2 → R [v1, v2] H2 v) : Ev (tCall (spF R) [] E (tCons t1 (tCons t2 tNil))) σ H v := fun H1 e Q q =>
  h1 H1 e _ fun H2 e2 => h2 H2 (e.trans e2) _ fun v2 H3 e3 w => ⟨v, fun H4 e4 => hR v2 H3 H4 ((e.trans e2).trans e3) w e4, fun H4 e4 => q H4 ((e2.trans e3).trans e4)⟩
def lawS (a : Addr) (sc : Int) (p : Addr) (mo : V) (o4 o5 o6 o7 o8 : Option V) : L2.St := [some (.ref a), some (.int sc), some (.ref p), some mo, o4, o5, o6, o7, o8]
def spLaw3 (T : List NdefX.NTab) (K : PySem.W.Frag) : Sp := fun vs H Q _ => ∃ (a : Addr) (ns : List Int), vs = [.ref a] ∧ SqL K H a (ns.map V.int) ∧ ns.length ≤ 63 ∧ NdefX.TabsN T H ∧ ∀ H', Q (.bl true) H'
theorem rCell {K : PySem.W.Frag} {H : Hp} {a : Addr} {ns : List Int} {k : Int} (hS : SqL K H a (ns.map V.int)) (hl : ns.length ≤ 63) (hk : 0 ≤ k) : ∀ H1, Ex H H1 → RCell K [.ref a, .int k] H1 (.int (cellV ns k)) := fun H1 e => ⟨a, ns, k, rfl, ex_l e hS, hl, hk, rfl⟩
theorem rOne {D : Int → Prop} {f : Int → Int} {H : Hp} {c : Int} (h : D c) : ∀ H1, Ex H H1 → R1 D f [.int c] H1 (.int (f c)) := fun _ _ => ⟨c, rfl, h, rfl⟩
section
variable {P : Program} {w : World} {K : PySem.W.Frag} {mg : Str → Option Value} {base : Heap} {cJ cW : Addr} {Tb : List NdefX.NTab}
theorem ok_law {f : Addr} {fd : FuncData} (T : Blt mg) (F : C8.Fun K "law" "law" s_law f fd)
    (c_Lcell : C8.Cal P w K mg base 1 "_law_cell" (spF (RCell K)) []) (c_Lscale : C8.Cal P w K mg base 1 "_law_scale" (spF (R1 (fun c => 0 ≤ c) scaleV)) []) (c_Lgap : C8.Cal P w K mg base 1 "_law_gap" (spF (R1 (fun c => 0 ≤ c) gapV)) []) (c_Lcost : C8.Cal P w K mg base 1 "_law_cost" (spF (R2' (fun c sc => 0 ≤ c ∧ 1 ≤ sc ∧ sc ≤ 40000000) costV)) [])
    (c_Lbound : C8.Cal P w K mg base 1 "_law_bound" (spW RBound) []) (c_Lmade : C8.Cal P w K mg base 4 "_law_made" (spW (RMade cJ cW)) []) (c_broken : C8.Cal P w K mg base 4 "broken" (spBrk Tb cJ cW) []) (c_Lfirst : C8.Cal P w K mg base 2 "_law_first" (spW RLF) []) (c_Lright : C8.Cal P w K mg base 1 "_law_right" (spF RRight3) []) :
    FnOk P w K mg base C8.CX0 5 f fd ["_law_script"] (spLaw3 Tb K) := by
  refine C8.fn0 F sc_law (fun vs H Q E h => ?_) (fun cdv A outer s H vs Q E hr h => ?_)
  · obtain ⟨a, ns, rfl, _⟩ := h
    rfl
  · obtain ⟨a, ns, rfl, hS, hl, hT, q⟩ := h
    refine ⟨_, (pss_cons (ps_set (i := 1) sc_law.nd rfl (Or.inl rfl) (C8.pe_c c_Lscale hr (by decide) rfl (pa_cons (C8.pe_c c_Lcell hr (by decide) rfl (pa_cons (pv 0) (pa_cons pe_int pa_nil))) pa_nil)))
  (pss_cons (ps_set (i := 2) sc_law.nd rfl (Or.inl rfl) (C8.pe_c c_Lbound hr (by decide) rfl (pa_cons (C8.pe_c c_Lcell hr (by decide) rfl (pa_cons (pv 0) (pa_cons pe_int pa_nil))) (pa_cons (pv 1) pa_nil))))
  (Evl.pss_cut (ps_if (pt_cmpR op_eq (pe_op op_mod (C8.pe_c c_Lcell hr (by decide) rfl (pa_cons (pv 0) (pa_cons pe_int pa_nil))) pe_int) pe_int (nomark _))
    (pss_one (ps_set (i := 2) sc_law.nd rfl (Or.inl rfl) (pe_tup (pa_cons (pe_ix ix_tup (pv 2) pe_int (fun _ _ => rfl)) (pa_cons (pe_op op_mul (pe_ix ix_tup (pv 2) pe_int (fun _ _ => rfl)) pe_int) (pa_cons (pe_ix ix_tup (pv 2) pe_int (fun _ _ => rfl)) pa_nil))))))
    pss_nil)
  (pss_cons (ps_set (i := 3) sc_law.nd rfl (Or.inl rfl) (pe_op op_mod (C8.pe_c c_Lcell hr (by decide) rfl (pa_cons (pv 0) (pa_cons pe_int pa_nil))) (pe_ix ix_list (pe_lst (pa_cons pe_int (pa_cons (pe_op op_pow pe_int pe_int) pa_nil))) (pe_op op_mod (C8.pe_c c_Lcell hr (by decide) rfl (pa_cons (pv 0) (pa_cons pe_int pa_nil))) pe_int) (fun _ _ => rfl))))
  (pss_cons (ps_set (i := 4) sc_law.nd rfl (Or.inl rfl) (pe_lst pa_nil))
  (pss_cons (ps_for PassesOwn.never rfl (pi_range1 rfl T.b_range (pa_cons (pe_callB (call_min2 rfl) (by rfl) T.b_min boot_min (pa_cons pe_int (pa_cons (pe_callB call_len_seq (by rfl) T.b_len boot_len (pa_cons (pv 0) pa_nil)) pa_nil))) pa_nil)) (pg_name (i := 5) sc_law.nd rfl (Or.inl rfl))
    (pss_cons (ps_set (i := 3) sc_law.nd rfl (Or.inl rfl) (pe_op op_add (pv 3) (C8.pe_c c_Lgap hr (by decide) rfl (pa_cons (C8.pe_c c_Lcell hr (by decide) rfl (pa_cons (pv 0) (pa_cons (pe_op op_add pe_int (pe_op op_mul pe_int (pv 5))) pa_nil))) pa_nil))))
    (pss_one (ps_expr (pe_bm PySem.F.plainAttrs_list PySem.F.slot_list_append PySem.F.type_list_append mt_append (pv 4) (pa_cons (pe_tup (pa_cons (pv 3) (pa_cons (C8.pe_c c_Lcost hr (by decide) rfl (pa_cons (C8.pe_c c_Lcell hr (by decide) rfl (pa_cons (pv 0) (pa_cons (pe_op op_add pe_int (pe_op op_mul pe_int (pv 5))) pa_nil))) (pa_cons (pv 1) pa_nil))) pa_nil))) pa_nil))))))
  (pss_cons (ps_set (i := 6) sc_law.nd rfl (Or.inl rfl) (pe_callTy call_list_of (by rfl) T.b_list boot_list (pa_cons (pv 4) pa_nil)))
  (pss_cons (ps_set (i := 7) sc_law.nd rfl (Or.inl rfl) (C8.pe_c c_broken hr (by decide) rfl (pa_cons (C8.pe_c c_Lmade hr (by decide) rfl (pa_cons (pv 2) pa_nil)) (pa_cons (pv 6) pa_nil))))
  (pss_cons (ps_if (PW.pt (pw_or (pt_cmpR (op_neD hr.units) (pv 6) (pv 4) (nomark _)) (pw_or1 (pt_not (pt_val (C8.pe_c c_Lright hr (by decide) rfl (pa_cons (pv 7) (pa_cons (C8.pe_c c_Lfirst hr (by decide) rfl (pa_cons (pv 2) (pa_cons (pv 4) pa_nil))) pa_nil))))))))
    (pss_one (ps_ret pe_bl))
    pss_nil)
  (pss_cons (ps_set (i := 8) sc_law.nd rfl (Or.inl rfl) (pe_slice sl_list (pv 6) po_none (po_some (pe_op op_fdiv (pe_callB call_len_seq (by rfl) T.b_len boot_len (pa_cons (pv 6) pa_nil)) pe_int))))
  (pss_one (ps_ret (C8.pe_c c_Lright hr (by decide) rfl (pa_cons (C8.pe_c c_broken hr (by decide) rfl (pa_cons (C8.pe_c c_Lmade hr (by decide) rfl (pa_cons (pv 2) pa_nil)) (pa_cons (pv 8) pa_nil))) (pa_cons (C8.pe_c c_Lfirst hr (by decide) rfl (pa_cons (pv 2) (pa_cons (pv 8) pa_nil))) pa_nil))))))))))))))), ?_⟩
    have sc := scale_in (cellV ns 0)
    have cellAt : ∀ {σ : L2.St} {H : Hp} {te : TE} {i : Int}, σ[0]? = some (some (.ref a)) → SqL K H a (ns.map V.int) → Ev te σ H (.int i) → 0 ≤ i → Ev (tCall (spF (RCell K)) [] C8.E0 (tCons (tVar 0) (tCons te tNil))) σ H (.int (cellV ns i)) := fun h0 hS he hi => ev_callF (ea_cons (ev_var h0) (ea_cons he ea_nil)) (rCell hS hl hi)
    refine Nx.go (nx_asg (v := .int (scaleV (cellV ns 0))) (ev_callF (ea_cons (cellAt rfl hS ev_c (by decide)) ea_nil) (rOne (cellV_nn ns 0)))) fun H1 e1 => ?_
    replace hS := ex_l e1 hS
    replace hT := hT.ext e1
    have both := boundV_ok (cellV_nn ns 1) sc.1 sc.2
    generalize scaleV (cellV ns 0) = scl at sc both ⊢
    refine ev_go (W := fun v H2 => ∃ p, v = .ref p ∧ H2 p = some (.tup (boundV (cellV ns 1) scl).tup)) (evw_callW (ea_cons (cellAt rfl hS ev_c (by decide)) (ea_cons (ev_var rfl) ea_nil)) fun H2 e2 => ⟨_, _, rfl, cellV_nn ns 1, sc.1, sc.2, rfl⟩) fun v H2 e2 ⟨p0, ev, hp0⟩ => ?_
    subst ev
    replace hS := ex_l e2 hS
    replace hT := hT.ext e2
    generalize boundV (cellV ns 1) scl = b0 at both hp0
    refine ⟨fun σ' H' => ∃ p bd, σ' = [some (.ref a), some (.int scl), some (.ref p), none, none, none, none, none, none] ∧ SqL K H' a (ns.map V.int) ∧ H' p = some (.tup (Bd.tup bd)) ∧ bd.ok ∧ NdefX.TabsN Tb H', ?_, fun σ' H3 ⟨p, bd, hσ, hS, hp, bok, hT⟩ => ?_⟩
    · refine s_when (D := { nx := _, rt := Q, bk := _, ct := _ }) (et_test (ev_op (ev_op (cellAt rfl hS ev_c (by decide)) ev_c (rv_I (by decide))) ev_c (rv_eq rfl))) (fun _ H3 e3 => ?_) fun _ H3 e3 => ⟨p0, b0, rfl, ex_l e3 hS, e3 _ _ hp0, both.1, hT.ext e3⟩
      have hB : SqT K H3 p0 b0.tup := st_of (e3 _ _ hp0)
      refine s_asgU (D := { nx := _, rt := Q, bk := _, ct := _ }) (xs := (mul4 b0).tup) ?_ fun p H4 _ e4 hp => ⟨p, mul4 b0, rfl, ex_l (e3.trans e4) hS, hp, both.2, hT.ext (e3.trans e4)⟩
      cases b0 with
      | jar S f => exact eu_tup (ea_cons (ev_ixT (v := .str "jar") (ev_var rfl) ev_c hB rfl) (ea_cons (ev_op (ev_ixT (v := .int S) (ev_var rfl) ev_c hB rfl) ev_c (rv_I (.inr ⟨by decide, by decide⟩))) (ea_cons (ev_ixT (v := .int f) (ev_var rfl) ev_c hB rfl) ea_nil))) (show 3 ≤ 100000 by decide)
      | win S f => exact eu_tup (ea_cons (ev_ixT (v := .str "window") (ev_var rfl) ev_c hB rfl) (ea_cons (ev_op (ev_ixT (v := .int S) (ev_var rfl) ev_c hB rfl) ev_c (rv_I (.inr ⟨by decide, by decide⟩))) (ea_cons (ev_ixT (v := .int f) (ev_var rfl) ev_c hB rfl) ea_nil))) (show 3 ≤ 100000 by decide)
    subst hσ
    have m0 : 5 ≤ ([5, 100000000000] : List Int).getD (cellV ns 4 % 2).toNat 0 ∧ ([5, 100000000000] : List Int).getD (cellV ns 4 % 2).toNat 0 ≤ 100000000000 := getD_in _ _ (by decide) (by simp only [List.length_cons, List.length_nil]; omega)
    refine Nx.go (nx_asg (v := .int (cellV ns 3 % ([5, 100000000000] : List Int).getD (cellV ns 4 % 2).toNat 0)) (ev_op (cellAt rfl hS ev_c (by decide)) (ev_ixN (i := cellV ns 4 % 2) (ea_cons ev_c (ea_cons (ev_op ev_c ev_c (rv_I ⟨by decide, by decide, by decide⟩)) ea_nil)) (ev_op (cellAt rfl hS ev_c (by decide)) ev_c (rv_I (by decide))) (by simp only [List.length_cons, List.length_nil]; omega) (atI_disp (.cons (.cons .nil)) (by omega) (by simp only [List.length_cons, List.length_nil]; omega))) (rv_I (show 0 < ([5, 100000000000] : List Int).getD (cellV ns 4 % 2).toNat 0 by omega)))) fun H4 e4 => ?_
    replace hS := ex_l e4 hS
    replace hT := hT.ext e4
    replace hp := e4 _ _ hp
    generalize cellV ns 3 % ([5, 100000000000] : List Int).getD (cellV ns 4 % 2).toNat 0 = mo0
    refine q_asgL (D := { nx := _, rt := Q }) (el_lst ea_nil (by decide)) fun l H5 nl e5 hl5 => ?_
    refine q_forR1 (n := min 200 (ns.length : Int)) (ea_cons (ev_min ev_c (ev_lenI (K := K) (ev_var rfl) (ex_l e5 hS))) ea_nil) (by omega) (fun i σ' H' => ∃ (rs : List (Int × Int)) (mo : Int) (o5 : Option V), σ' = lawS a scl p (.int mo) (some (.ref l)) o5 none none none ∧ Ex H4 H' ∧ PairsT H' l rs ∧ VOk rs ∧ (∀ j, j < rs.length → mom rs j ≤ mo) ∧ rs.length = i)
      (fun H6 e6 => ⟨[], mo0, none, rfl, e5.trans e6, ⟨[], e6 _ _ hl5, .nil⟩, ⟨fun i h => absurd h (Nat.not_lt_zero _), fun i j _ h => absurd h (Nat.not_lt_zero _)⟩, fun j h => absurd h (Nat.not_lt_zero _), rfl⟩) (fun i σ H6 hi ⟨rs, mo, o5, hσ, e6, hP, ok, hu, hlen⟩ => ?_) fun σ H6 ⟨rs, mo, o5, hσ, e6, hP, ok, hu, hlen⟩ => ?_
    · subst hσ
      have hS6 := ex_l e6 hS
      have k0 := cellV_nn ns (10 + 2 * (i : Int))
      have g0 := gap_in _ k0
      have cs := cost_in (cellV_nn ns (11 + 2 * (i : Int))) sc.1 sc.2
      refine Nx.go (nx_asg (v := .int (mo + gapV (cellV ns (10 + 2 * (i : Int))))) (ev_op (ev_var rfl) (ev_callF (ea_cons (cellAt (i := 10 + 2 * (i : Int)) rfl hS6 (ev_op ev_c (ev_op ev_c (ev_var rfl) (rv_I (.inl ⟨by decide, by decide⟩))) rv_I0) (by omega)) ea_nil) (rOne k0)) rv_I0)) fun H7 e7 => ?_
      generalize gapV (cellV ns (10 + 2 * (i : Int))) = g at g0 ⊢
      obtain ⟨ps, hl7, hps⟩ := hP.mono e7
      refine s_appU (ys := [.int (mo + g), .int (costV (cellV ns (11 + 2 * (i : Int))) scl)]) hl7 (ev_var rfl) (eu_tup (ea_cons (ev_var rfl) (ea_cons (ev_callF (ea_cons (cellAt (i := 11 + 2 * (i : Int)) rfl (ex_l e7 hS6) (ev_op ev_c (ev_op ev_c (ev_var rfl) (rv_I (.inl ⟨by decide, by decide⟩))) rv_I0) (by omega)) (ea_cons (ev_var rfl) ea_nil)) fun H8 _ => ⟨_, _, rfl, ⟨cellV_nn ns _, sc.1, sc.2⟩, rfl⟩) ea_nil)) (by simp only [List.length_cons, List.length_nil]; omega)) (by rw [List.length_map, hps.len]; omega) fun pn H8 _ e8 hpn => ?_
      refine ⟨rs ++ [(mo + g, costV (cellV ns (11 + 2 * (i : Int))) scl)], mo + g, _, rfl, Ex.mut ((e6.trans e7).trans e8) nl, ⟨ps ++ [pn], ?_, ?_⟩, ok.snoc (fun j hj => by have := hu j hj; omega) cs.1, fun j hj => ?_, by rw [len_snoc, hlen]⟩
      · rw [upd_same, List.map_append]
        rfl
      · refine Prs.upd (Prs.snoc (hps.mono e8) hpn) fun xs z => ?_
        rw [e8 _ _ hl7] at z
        cases z
      · rw [len_snoc] at hj
        by_cases e : j = rs.length
        · subst e
          rw [(mom_eq rs _).1]
          exact Int.le_refl _
        · rw [(mom_lt rs _ (show j < rs.length by omega)).1]
          have := hu j (by omega)
          omega
    · subst hσ
      have hn : rs.length ≤ 300 := by omega
      obtain ⟨ps, hl6, hps⟩ := hP
      replace hT := hT.ext e6
      replace hp := e6 _ _ hp
      have many := hps.len
      clear hu hlen hS
      refine q_asgL (D := { nx := _, rt := Q }) (el_list (ev_var rfl) (sq_of hl6)) fun hd H7 _ e7 hhd => ?_
      obtain ⟨r, hr⟩ := bfst_ex bd rs
      have hl7 := e7 _ _ hl6
      have hps7 := hps.mono e7
      have hp7 := e7 _ _ hp
      refine brk_call (evw_callW (ea_cons (ev_var rfl) ea_nil) fun H8 e8 => ⟨p, bd, rfl, e8 _ _ hp7, bok, rfl⟩) (ev_var rfl) ⟨ps, hhd, hps7⟩ ok bok hn (hT.ext e7) hr fun v1 H8 e8 hT8 hv1 => ?_
      have hl8 := exN_lst e8 hl7
      have hhd8 := exN_lst e8 hhd
      have hps8 := exN_prs e8 hps7
      have hp8 := exN_t e8 hp7
      refine q_when (D := { nx := _, rt := Q }) (b := false) (et_or (a := false) (b := false) (et_test (ev_op (ev_var rfl) (ev_var rfl) (rv_nePrs hhd8 hl8 hps8))) fun _ => et_not (a := true) (et_B (ev_callFW (ev_var rfl) (evw_callW (ea_cons (ev_var rfl) (ea_cons (ev_var rfl) ea_nil)) fun H9 e9 => ⟨p, l, bd, rs, rfl, e9 _ _ hp8, ⟨ps, e9 _ _ hl8, hps8.mono e9⟩, bok, hn, rfl⟩) fun v2 H9 H10 e9 ⟨r', hr', hv2⟩ e10 => ⟨v1, v2, r, rfl, hv1.mono (e9.trans e10), by rw [first_one ok hr hr']; exact hv2.mono e10, rfl⟩))) (fun z => by cases z) fun _ H9 e9 => ?_
      have ok2 := ok.take (rs.length / 2)
      have hn2 : (rs.take (rs.length / 2)).length ≤ 300 := by rw [List.length_take]; omega
      refine q_asgL (D := { nx := _, rt := Q }) (el_sl (hi := some ((rs.length : Int) / 2)) (ev_var rfl) eo_none (eo_some (ev_op (ev_is (ev_lenL (K := K) (ev_var rfl) (sq_of (e9 _ _ hhd8))) (by rw [List.length_map, many])) ev_c (rv_I ⟨by decide, by decide⟩))) (sq_of (e9 _ _ hhd8))) fun hf H10 _ e10 hhf => ?_
      rw [cut_half ps rs.length many] at hhf
      have hps10 : Prs H10 (ps.take (rs.length / 2)) (rs.take (rs.length / 2)) := (hps8.mono (e9.trans e10)).take _
      have hp10 := (e9.trans e10) _ _ hp8
      obtain ⟨r2, hr2⟩ := bfst_ex bd (rs.take (rs.length / 2))
      refine brk_call (evw_callW (ea_cons (ev_var rfl) ea_nil) fun H11 e11 => ⟨p, bd, rfl, e11 _ _ hp10, bok, rfl⟩) (ev_var rfl) ⟨_, hhf, hps10⟩ ok2 bok hn2 (hT8.ext (e9.trans e10)) hr2 fun v3 H11 e11 hT11 hv3 => ?_
      refine (evw_callW (ea_cons (ev_var rfl) (ea_cons (ev_var rfl) ea_nil)) fun H12 e12 => ⟨p, hf, bd, _, rfl, e12 _ _ (exN_t e11 hp10), ⟨_, e12 _ _ (exN_lst e11 hhf), (exN_prs e11 hps10).mono e12⟩, bok, hn2, rfl⟩ : EvW _ _ H11 _) H11 (Ex.refl _) _ fun v4 H12 e12 ⟨r', hr', hv4⟩ => ?_
      exact ⟨.bl true, fun H13 e13 => ⟨v3, v4, r2, rfl, hv3.mono (e12.trans e13), by rw [first_one ok2 hr2 hr']; exact hv4.mono e13, rfl⟩, fun H13 e13 => q H13⟩
end


section
theorem all_mk {l : PySem.W.OpenLaw} {w : World} {K : PySem.W.Frag} {h : Heap} {mg : Str → Option Value} {fa : Addr} (X : K.In h) (G : h.Ns mainGlobals mg) (hfa : mg "law" = some (.ref fa))
    {t_LARGEST_SIZE : Tok}
    {t_LARGEST_FLOW : Tok}
    {t_LARGEST_MOST : Tok}
    {t_LARGEST_SPAN : Tok}
    {C_Jar : Addr}
    {od1 an1 : Option Addr} {sl1 : Array (Option Value)} {oc1 kV1 dc1 pm1 cd1 ct1 : Value} {f1 : Addr}
    {od2 an2 : Option Addr} {sl2 : Array (Option Value)} {oc2 kV2 dc2 pm2 cd2 ct2 : Value} {f2 : Addr}
    {C_Window : Addr}
    {od3 an3 : Option Addr} {sl3 : Array (Option Value)} {oc3 kV3 dc3 pm3 cd3 ct3 : Value} {f3 : Addr}
    {od4 an4 : Option Addr} {sl4 : Array (Option Value)} {oc4 kV4 dc4 pm4 cd4 ct4 : Value} {f4 : Addr}
    {od5 an5 : Option Addr} {sl5 : Array (Option Value)} {oc5 kV5 dc5 pm5 cd5 ct5 : Value} {f5 : Addr}
    {od6 an6 : Option Addr} {sl6 : Array (Option Value)} {oc6 kV6 dc6 pm6 cd6 ct6 : Value} {f6 : Addr}
    {od7 an7 : Option Addr} {sl7 : Array (Option Value)} {oc7 kV7 dc7 pm7 cd7 ct7 : Value} {f7 : Addr}
    {od8 an8 : Option Addr} {sl8 : Array (Option Value)} {oc8 kV8 dc8 pm8 cd8 ct8 : Value} {f8 : Addr}
    {od9 an9 : Option Addr} {sl9 : Array (Option Value)} {oc9 kV9 dc9 pm9 cd9 ct9 : Value} {f9 : Addr}
    {od10 an10 : Option Addr} {sl10 : Array (Option Value)} {oc10 kV10 dc10 pm10 cd10 ct10 : Value} {f10 : Addr}
    {od11 an11 : Option Addr} {sl11 : Array (Option Value)} {oc11 kV11 dc11 pm11 cd11 ct11 : Value} {f11 : Addr}
    {od12 an12 : Option Addr} {sl12 : Array (Option Value)} {oc12 kV12 dc12 pm12 cd12 ct12 : Value} {f12 : Addr}
    {od13 an13 : Option Addr} {sl13 : Array (Option Value)} {oc13 kV13 dc13 pm13 cd13 ct13 : Value} {f13 : Addr}
    {od14 an14 : Option Addr} {sl14 : Array (Option Value)} {oc14 kV14 dc14 pm14 cd14 ct14 : Value} {f14 : Addr}
    {od15 an15 : Option Addr} {sl15 : Array (Option Value)} {oc15 kV15 dc15 pm15 cd15 ct15 : Value} {f15 : Addr}
    {od16 an16 : Option Addr} {sl16 : Array (Option Value)} {oc16 kV16 dc16 pm16 cd16 ct16 : Value} {f16 : Addr}
    {od17 an17 : Option Addr} {sl17 : Array (Option Value)} {oc17 kV17 dc17 pm17 cd17 ct17 : Value} {f17 : Addr}
    {od18 an18 : Option Addr} {sl18 : Array (Option Value)} {oc18 kV18 dc18 pm18 cd18 ct18 : Value} {f18 : Addr}
    {cB P0 : Addr}
    {eB : Value}
    {ddB : Option Addr}
    {vsB : Array Value}
    {slB : Array (Option Value)}
    (z_len : PySem.W.nsIn K mainGlobals "len" = some none)
    (z_range : PySem.W.nsIn K mainGlobals "range" = some none)
    (z_min : PySem.W.nsIn K mainGlobals "min" = some none)
    (z_int : PySem.W.nsIn K mainGlobals "int" = some none)
    (z_bool : PySem.W.nsIn K mainGlobals "bool" = some none)
    (z_tuple : PySem.W.nsIn K mainGlobals "tuple" = some none)
    (z_list : PySem.W.nsIn K mainGlobals "list" = some none)
    (z_reversed : PySem.W.nsIn K mainGlobals "reversed" = some none)
    (z_isinstance : PySem.W.nsIn K mainGlobals "isinstance" = some none)
    (g_LARGEST_SIZE : PySem.W.nsIn K mainGlobals "LARGEST_SIZE" = some (some (.int 1000000000000000 t_LARGEST_SIZE)))
    (g_LARGEST_FLOW : PySem.W.nsIn K mainGlobals "LARGEST_FLOW" = some (some (.int 1000000000 t_LARGEST_FLOW)))
    (g_LARGEST_MOST : PySem.W.nsIn K mainGlobals "LARGEST_MOST" = some (some (.int 1000000000000000 t_LARGEST_MOST)))
    (g_LARGEST_SPAN : PySem.W.nsIn K mainGlobals "LARGEST_SPAN" = some (some (.int 1000000000000 t_LARGEST_SPAN)))
    (aC_Jar : PySem.W.nsIn K mainGlobals "Jar" = some (some (.ref C_Jar)))
    (pg_Jar : PySem.W.plainGet K C_Jar Str.empty = true)
    (hd_Jar : PySem.W.hasDictIn K C_Jar = true)
    (po_Jar : PySem.W.plainOver K C_Jar = true)
    (sa_Jar : PySem.W.findIn K (.ref C_Jar) "__setattr__" = some (some (.builtin "object.__setattr__")))
    (mk_Jar : PySem.W.makesIn K C_Jar = true)
    (kc_Jar : PySem.W.keepIn K (.ref C_Jar) = true)
    (n_Jar_0 : PySem.W.findIn K (.ref C_Jar) "_size" = some none)
    (n_Jar_1 : PySem.W.findIn K (.ref C_Jar) "_flow" = some none)
    (a1 : PySem.W.findIn K (.ref C_Jar) "__init__" = some (some (.ref f1)))
    (l1 : K.lookup f1 = some ⟨oc1, od1, .func (PySem.W.fnOf "__init__" "Jar.__init__" (C8.fnArgs s_Jar_init) (C8.fnBody s_Jar_init) (C8.fnScope s_Jar_init) .none kV1 dc1 pm1 an1 cd1 ct1), sl1⟩)
    (c1 : PySem.W.codeIn K cd1 "Jar.__init__" = true)
    (k1 : PySem.W.keepIn K (.ref f1) = true)
    (i1 : PySem.W.isFn K (.ref f1) = true)
    (a2 : PySem.W.findIn K (.ref C_Jar) "room" = some (some (.ref f2)))
    (l2 : K.lookup f2 = some ⟨oc2, od2, .func (PySem.W.fnOf "room" "Jar.room" (C8.fnArgs s_Jar_room) (C8.fnBody s_Jar_room) (C8.fnScope s_Jar_room) .none kV2 dc2 pm2 an2 cd2 ct2), sl2⟩)
    (c2 : PySem.W.codeIn K cd2 "Jar.room" = true)
    (k2 : PySem.W.keepIn K (.ref f2) = true)
    (i2 : PySem.W.isFn K (.ref f2) = true)
    (aC_Window : PySem.W.nsIn K mainGlobals "Window" = some (some (.ref C_Window)))
    (pg_Window : PySem.W.plainGet K C_Window Str.empty = true)
    (hd_Window : PySem.W.hasDictIn K C_Window = true)
    (po_Window : PySem.W.plainOver K C_Window = true)
    (sa_Window : PySem.W.findIn K (.ref C_Window) "__setattr__" = some (some (.builtin "object.__setattr__")))
    (mk_Window : PySem.W.makesIn K C_Window = true)
    (kc_Window : PySem.W.keepIn K (.ref C_Window) = true)
    (n_Window_0 : PySem.W.findIn K (.ref C_Window) "_most" = some none)
    (n_Window_1 : PySem.W.findIn K (.ref C_Window) "_span" = some none)
    (a3 : PySem.W.findIn K (.ref C_Window) "__init__" = some (some (.ref f3)))
    (l3 : K.lookup f3 = some ⟨oc3, od3, .func (PySem.W.fnOf "__init__" "Window.__init__" (C8.fnArgs s_Window_init) (C8.fnBody s_Window_init) (C8.fnScope s_Window_init) .none kV3 dc3 pm3 an3 cd3 ct3), sl3⟩)
    (c3 : PySem.W.codeIn K cd3 "Window.__init__" = true)
    (k3 : PySem.W.keepIn K (.ref f3) = true)
    (i3 : PySem.W.isFn K (.ref f3) = true)
    (a4 : PySem.W.findIn K (.ref C_Window) "room" = some (some (.ref f4)))
    (l4 : K.lookup f4 = some ⟨oc4, od4, .func (PySem.W.fnOf "room" "Window.room" (C8.fnArgs s_Window_room) (C8.fnBody s_Window_room) (C8.fnScope s_Window_room) .none kV4 dc4 pm4 an4 cd4 ct4), sl4⟩)
    (c4 : PySem.W.codeIn K cd4 "Window.room" = true)
    (k4 : PySem.W.keepIn K (.ref f4) = true)
    (i4 : PySem.W.isFn K (.ref f4) = true)
    (a5 : PySem.W.nsIn K mainGlobals "is_within" = some (some (.ref f5)))
    (l5 : K.lookup f5 = some ⟨oc5, od5, .func (PySem.W.fnOf "is_within" "is_within" (C8.fnArgs s_is_within) (C8.fnBody s_is_within) (C8.fnScope s_is_within) .none kV5 dc5 pm5 an5 cd5 ct5), sl5⟩)
    (c5 : PySem.W.codeIn K cd5 "is_within" = true)
    (k5 : PySem.W.keepIn K (.ref f5) = true)
    (a6 : PySem.W.nsIn K mainGlobals "_totals_ahead" = some (some (.ref f6)))
    (l6 : K.lookup f6 = some ⟨oc6, od6, .func (PySem.W.fnOf "_totals_ahead" "_totals_ahead" (C8.fnArgs s_totals_ahead) (C8.fnBody s_totals_ahead) (C8.fnScope s_totals_ahead) .none kV6 dc6 pm6 an6 cd6 ct6), sl6⟩)
    (c6 : PySem.W.codeIn K cd6 "_totals_ahead" = true)
    (k6 : PySem.W.keepIn K (.ref f6) = true)
    (a7 : PySem.W.nsIn K mainGlobals "_first_start" = some (some (.ref f7)))
    (l7 : K.lookup f7 = some ⟨oc7, od7, .func (PySem.W.fnOf "_first_start" "_first_start" (C8.fnArgs s_first_start) (C8.fnBody s_first_start) (C8.fnScope s_first_start) .none kV7 dc7 pm7 an7 cd7 ct7), sl7⟩)
    (c7 : PySem.W.codeIn K cd7 "_first_start" = true)
    (k7 : PySem.W.keepIn K (.ref f7) = true)
    (a8 : PySem.W.nsIn K mainGlobals "broken" = some (some (.ref f8)))
    (l8 : K.lookup f8 = some ⟨oc8, od8, .func (PySem.W.fnOf "broken" "broken" (C8.fnArgs s_broken) (C8.fnBody s_broken) (C8.fnScope s_broken) .none kV8 dc8 pm8 an8 cd8 ct8), sl8⟩)
    (c8 : PySem.W.codeIn K cd8 "broken" = true)
    (k8 : PySem.W.keepIn K (.ref f8) = true)
    (a9 : PySem.W.nsIn K mainGlobals "_law_cell" = some (some (.ref f9)))
    (l9 : K.lookup f9 = some ⟨oc9, od9, .func (PySem.W.fnOf "_law_cell" "_law_cell" (C8.fnArgs s_Lcell) (C8.fnBody s_Lcell) (C8.fnScope s_Lcell) .none kV9 dc9 pm9 an9 cd9 ct9), sl9⟩)
    (c9 : PySem.W.codeIn K cd9 "_law_cell" = true)
    (k9 : PySem.W.keepIn K (.ref f9) = true)
    (a10 : PySem.W.nsIn K mainGlobals "_law_bound" = some (some (.ref f10)))
    (l10 : K.lookup f10 = some ⟨oc10, od10, .func (PySem.W.fnOf "_law_bound" "_law_bound" (C8.fnArgs s_Lbound) (C8.fnBody s_Lbound) (C8.fnScope s_Lbound) .none kV10 dc10 pm10 an10 cd10 ct10), sl10⟩)
    (c10 : PySem.W.codeIn K cd10 "_law_bound" = true)
    (k10 : PySem.W.keepIn K (.ref f10) = true)
    (a11 : PySem.W.nsIn K mainGlobals "_law_made" = some (some (.ref f11)))
    (l11 : K.lookup f11 = some ⟨oc11, od11, .func (PySem.W.fnOf "_law_made" "_law_made" (C8.fnArgs s_Lmade) (C8.fnBody s_Lmade) (C8.fnScope s_Lmade) .none kV11 dc11 pm11 an11 cd11 ct11), sl11⟩)
    (c11 : PySem.W.codeIn K cd11 "_law_made" = true)
    (k11 : PySem.W.keepIn K (.ref f11) = true)
    (a12 : PySem.W.nsIn K mainGlobals "_law_room" = some (some (.ref f12)))
    (l12 : K.lookup f12 = some ⟨oc12, od12, .func (PySem.W.fnOf "_law_room" "_law_room" (C8.fnArgs s_Lroom) (C8.fnBody s_Lroom) (C8.fnScope s_Lroom) .none kV12 dc12 pm12 an12 cd12 ct12), sl12⟩)
    (c12 : PySem.W.codeIn K cd12 "_law_room" = true)
    (k12 : PySem.W.keepIn K (.ref f12) = true)
    (a13 : PySem.W.nsIn K mainGlobals "_law_gap" = some (some (.ref f13)))
    (l13 : K.lookup f13 = some ⟨oc13, od13, .func (PySem.W.fnOf "_law_gap" "_law_gap" (C8.fnArgs s_Lgap) (C8.fnBody s_Lgap) (C8.fnScope s_Lgap) .none kV13 dc13 pm13 an13 cd13 ct13), sl13⟩)
    (c13 : PySem.W.codeIn K cd13 "_law_gap" = true)
    (k13 : PySem.W.keepIn K (.ref f13) = true)
    (a14 : PySem.W.nsIn K mainGlobals "_law_cost" = some (some (.ref f14)))
    (l14 : K.lookup f14 = some ⟨oc14, od14, .func (PySem.W.fnOf "_law_cost" "_law_cost" (C8.fnArgs s_Lcost) (C8.fnBody s_Lcost) (C8.fnScope s_Lcost) .none kV14 dc14 pm14 an14 cd14 ct14), sl14⟩)
    (c14 : PySem.W.codeIn K cd14 "_law_cost" = true)
    (k14 : PySem.W.keepIn K (.ref f14) = true)
    (a15 : PySem.W.nsIn K mainGlobals "_law_scale" = some (some (.ref f15)))
    (l15 : K.lookup f15 = some ⟨oc15, od15, .func (PySem.W.fnOf "_law_scale" "_law_scale" (C8.fnArgs s_Lscale) (C8.fnBody s_Lscale) (C8.fnScope s_Lscale) .none kV15 dc15 pm15 an15 cd15 ct15), sl15⟩)
    (c15 : PySem.W.codeIn K cd15 "_law_scale" = true)
    (k15 : PySem.W.keepIn K (.ref f15) = true)
    (a16 : PySem.W.nsIn K mainGlobals "_law_first" = some (some (.ref f16)))
    (l16 : K.lookup f16 = some ⟨oc16, od16, .func (PySem.W.fnOf "_law_first" "_law_first" (C8.fnArgs s_Lfirst) (C8.fnBody s_Lfirst) (C8.fnScope s_Lfirst) .none kV16 dc16 pm16 an16 cd16 ct16), sl16⟩)
    (c16 : PySem.W.codeIn K cd16 "_law_first" = true)
    (k16 : PySem.W.keepIn K (.ref f16) = true)
    (a17 : PySem.W.nsIn K mainGlobals "_law_right" = some (some (.ref f17)))
    (l17 : K.lookup f17 = some ⟨oc17, od17, .func (PySem.W.fnOf "_law_right" "_law_right" (C8.fnArgs s_Lright) (C8.fnBody s_Lright) (C8.fnScope s_Lright) .none kV17 dc17 pm17 an17 cd17 ct17), sl17⟩)
    (c17 : PySem.W.codeIn K cd17 "_law_right" = true)
    (k17 : PySem.W.keepIn K (.ref f17) = true)
    (a18 : PySem.W.nsIn K mainGlobals "law" = some (some (.ref f18)))
    (l18 : K.lookup f18 = some ⟨oc18, od18, .func (PySem.W.fnOf "law" "law" (C8.fnArgs s_law) (C8.fnBody s_law) (C8.fnScope s_law) .none kV18 dc18 pm18 an18 cd18 ct18), sl18⟩)
    (c18 : PySem.W.codeIn K cd18 "law" = true)
    (k18 : PySem.W.keepIn K (.ref f18) = true)
    (hcB : cd8 = Value.ref cB)
    (lcB : K.lookup cB = some ⟨eB, ddB, .fields vsB, slB⟩)
    (vB : vsB[11]? = some (Value.ref P0))
    (nB : K.lookup P0 = none) :
    ∃ (fd : FuncData) (cB P0 : Addr), PySem.W.tabIn K "broken" = some (cB, P0) ∧ K.lookup P0 = none ∧ (∀ (s : Shared) (v : Value), BindsTo s fd ⟨[v], []⟩ [("_law_script", v)]) ∧ ∀ base : Heap, K.In base → base.Ns mainGlobals mg → LamX.TabB base mg cB P0 → FnOk l.prog w K mg base C8.CX0 5 fa fd ["_law_script"] (spLaw3 [(P0, fun _ _ => qE)] K) := by
  have e : f18 = fa := by
    have e := (PySem.W.mg_of X G a18).symm.trans hfa
    injection e with e
    injection e
  subst e
  have T : Blt mg := ⟨PySem.W.mg_none_of X G z_len, PySem.W.mg_none_of X G z_range, PySem.W.mg_none_of X G z_min, PySem.W.mg_none_of X G z_int, PySem.W.mg_none_of X G z_bool, PySem.W.mg_none_of X G z_tuple, PySem.W.mg_none_of X G z_list, PySem.W.mg_none_of X G z_reversed, PySem.W.mg_none_of X G z_isinstance⟩
  have Gc : Cst mg := ⟨⟨_, PySem.W.mg_of X G g_LARGEST_SIZE, ⟨_, rfl⟩⟩, ⟨_, PySem.W.mg_of X G g_LARGEST_FLOW, ⟨_, rfl⟩⟩, ⟨_, PySem.W.mg_of X G g_LARGEST_MOST, ⟨_, rfl⟩⟩, ⟨_, PySem.W.mg_of X G g_LARGEST_SPAN, ⟨_, rfl⟩⟩⟩
  have cl_Jar : Cls K C_Jar := ⟨pg_Jar, hd_Jar, po_Jar, sa_Jar⟩
  have kl_Jar : ClJar K C_Jar := ⟨cl_Jar, n_Jar_0, n_Jar_1⟩
  have F1 : C8.Fun K "__init__" "Jar.__init__" s_Jar_init f1 _ := ⟨⟨oc1, od1, .none, kV1, dc1, pm1, an1, cd1, ct1, sl1, rfl, l1, c1⟩⟩
  have b1 : Binds K _ ["self", "size", "flow"] [] := F1.binds rfl (ps := ["self", "size", "flow"]) fun _ _ _ _ _ _ us hl => match us, hl with | [_, _, _], _ => rfl
  have M_Jar : Mk K C_Jar f1 := ⟨mk_Jar, a1, i1, kc_Jar⟩
  have mg_Jar := PySem.W.mg_of X G aC_Jar
  have fn_Jar_init := F1
  have bi_Jar_init := b1
  have F2 : C8.Fun K "room" "Jar.room" s_Jar_room f2 _ := ⟨⟨oc2, od2, .none, kV2, dc2, pm2, an2, cd2, ct2, sl2, rfl, l2, c2⟩⟩
  have b2 : Binds K _ ["self", "first", "last"] [] := F2.binds rfl (ps := ["self", "first", "last"]) fun _ _ _ _ _ _ us hl => match us, hl with | [_, _, _], _ => rfl
  have me_Jar_room : Meth K C_Jar "room" f2 := ⟨a2, i2, k2⟩
  have fn_Jar_room := F2
  have bi_Jar_room := b2
  have cl_Window : Cls K C_Window := ⟨pg_Window, hd_Window, po_Window, sa_Window⟩
  have kl_Window : ClWin K C_Window := ⟨cl_Window, n_Window_0, n_Window_1⟩
  have F3 : C8.Fun K "__init__" "Window.__init__" s_Window_init f3 _ := ⟨⟨oc3, od3, .none, kV3, dc3, pm3, an3, cd3, ct3, sl3, rfl, l3, c3⟩⟩
  have b3 : Binds K _ ["self", "most", "span"] [] := F3.binds rfl (ps := ["self", "most", "span"]) fun _ _ _ _ _ _ us hl => match us, hl with | [_, _, _], _ => rfl
  have M_Window : Mk K C_Window f3 := ⟨mk_Window, a3, i3, kc_Window⟩
  have mg_Window := PySem.W.mg_of X G aC_Window
  have fn_Window_init := F3
  have bi_Window_init := b3
  have F4 : C8.Fun K "room" "Window.room" s_Window_room f4 _ := ⟨⟨oc4, od4, .none, kV4, dc4, pm4, an4, cd4, ct4, sl4, rfl, l4, c4⟩⟩
  have b4 : Binds K _ ["self", "first", "last"] [] := F4.binds rfl (ps := ["self", "first", "last"]) fun _ _ _ _ _ _ us hl => match us, hl with | [_, _, _], _ => rfl
  have me_Window_room : Meth K C_Window "room" f4 := ⟨a4, i4, k4⟩
  have fn_Window_room := F4
  have bi_Window_room := b4
  have F5 : C8.Fun K "is_within" "is_within" s_is_within f5 _ := ⟨⟨oc5, od5, .none, kV5, dc5, pm5, an5, cd5, ct5, sl5, rfl, l5, c5⟩⟩
  have b5 : Binds K _ ["value", "least", "largest"] [] := F5.binds rfl (ps := ["value", "least", "largest"]) fun _ _ _ _ _ _ us hl => match us, hl with | [_, _, _], _ => rfl
  have df_is_within : C8.Def K mg "is_within" s_is_within f5 _ := ⟨F5, PySem.W.mg_of X G a5, k5⟩
  have bi_is_within := b5
  have F6 : C8.Fun K "_totals_ahead" "_totals_ahead" s_totals_ahead f6 _ := ⟨⟨oc6, od6, .none, kV6, dc6, pm6, an6, cd6, ct6, sl6, rfl, l6, c6⟩⟩
  have b6 : Binds K _ ["visits"] [] := F6.binds rfl (ps := ["visits"]) fun _ _ _ _ _ _ us hl => match us, hl with | [_], _ => rfl
  have df_totals_ahead : C8.Def K mg "_totals_ahead" s_totals_ahead f6 _ := ⟨F6, PySem.W.mg_of X G a6, k6⟩
  have bi_totals_ahead := b6
  have F7 : C8.Fun K "_first_start" "_first_start" s_first_start f7 _ := ⟨⟨oc7, od7, .none, kV7, dc7, pm7, an7, cd7, ct7, sl7, rfl, l7, c7⟩⟩
  have b7 : Binds K _ ["many", "excess"] [] := F7.binds rfl (ps := ["many", "excess"]) fun _ _ _ _ _ _ us hl => match us, hl with | [_, _], _ => rfl
  have df_first_start : C8.Def K mg "_first_start" s_first_start f7 _ := ⟨F7, PySem.W.mg_of X G a7, k7⟩
  have bi_first_start := b7
  have F8 : C8.Fun K "broken" "broken" s_broken f8 _ := ⟨⟨oc8, od8, .none, kV8, dc8, pm8, an8, cd8, ct8, sl8, rfl, l8, c8⟩⟩
  have b8 : Binds K _ ["bound", "visits"] [] := F8.binds rfl (ps := ["bound", "visits"]) fun _ _ _ _ _ _ us hl => match us, hl with | [_, _], _ => rfl
  have df_broken : C8.Def K mg "broken" s_broken f8 _ := ⟨F8, PySem.W.mg_of X G a8, k8⟩
  have bi_broken := b8
  have F9 : C8.Fun K "_law_cell" "_law_cell" s_Lcell f9 _ := ⟨⟨oc9, od9, .none, kV9, dc9, pm9, an9, cd9, ct9, sl9, rfl, l9, c9⟩⟩
  have b9 : Binds K _ ["_law_script", "_law_k"] [] := F9.binds rfl (ps := ["_law_script", "_law_k"]) fun _ _ _ _ _ _ us hl => match us, hl with | [_, _], _ => rfl
  have df_Lcell : C8.Def K mg "_law_cell" s_Lcell f9 _ := ⟨F9, PySem.W.mg_of X G a9, k9⟩
  have bi_Lcell := b9
  have F10 : C8.Fun K "_law_bound" "_law_bound" s_Lbound f10 _ := ⟨⟨oc10, od10, .none, kV10, dc10, pm10, an10, cd10, ct10, sl10, rfl, l10, c10⟩⟩
  have b10 : Binds K _ ["_law_cell_here", "_law_scale_here"] [] := F10.binds rfl (ps := ["_law_cell_here", "_law_scale_here"]) fun _ _ _ _ _ _ us hl => match us, hl with | [_, _], _ => rfl
  have df_Lbound : C8.Def K mg "_law_bound" s_Lbound f10 _ := ⟨F10, PySem.W.mg_of X G a10, k10⟩
  have bi_Lbound := b10
  have F11 : C8.Fun K "_law_made" "_law_made" s_Lmade f11 _ := ⟨⟨oc11, od11, .none, kV11, dc11, pm11, an11, cd11, ct11, sl11, rfl, l11, c11⟩⟩
  have b11 : Binds K _ ["_law_bound_here"] [] := F11.binds rfl (ps := ["_law_bound_here"]) fun _ _ _ _ _ _ us hl => match us, hl with | [_], _ => rfl
  have df_Lmade : C8.Def K mg "_law_made" s_Lmade f11 _ := ⟨F11, PySem.W.mg_of X G a11, k11⟩
  have bi_Lmade := b11
  have F12 : C8.Fun K "_law_room" "_law_room" s_Lroom f12 _ := ⟨⟨oc12, od12, .none, kV12, dc12, pm12, an12, cd12, ct12, sl12, rfl, l12, c12⟩⟩
  have b12 : Binds K _ ["_law_bound_here", "_law_first_here", "_law_last"] [] := F12.binds rfl (ps := ["_law_bound_here", "_law_first_here", "_law_last"]) fun _ _ _ _ _ _ us hl => match us, hl with | [_, _, _], _ => rfl
  have df_Lroom : C8.Def K mg "_law_room" s_Lroom f12 _ := ⟨F12, PySem.W.mg_of X G a12, k12⟩
  have bi_Lroom := b12
  have F13 : C8.Fun K "_law_gap" "_law_gap" s_Lgap f13 _ := ⟨⟨oc13, od13, .none, kV13, dc13, pm13, an13, cd13, ct13, sl13, rfl, l13, c13⟩⟩
  have b13 : Binds K _ ["_law_cell_here"] [] := F13.binds rfl (ps := ["_law_cell_here"]) fun _ _ _ _ _ _ us hl => match us, hl with | [_], _ => rfl
  have df_Lgap : C8.Def K mg "_law_gap" s_Lgap f13 _ := ⟨F13, PySem.W.mg_of X G a13, k13⟩
  have bi_Lgap := b13
  have F14 : C8.Fun K "_law_cost" "_law_cost" s_Lcost f14 _ := ⟨⟨oc14, od14, .none, kV14, dc14, pm14, an14, cd14, ct14, sl14, rfl, l14, c14⟩⟩
  have b14 : Binds K _ ["_law_cell_here", "_law_scale_here"] [] := F14.binds rfl (ps := ["_law_cell_here", "_law_scale_here"]) fun _ _ _ _ _ _ us hl => match us, hl with | [_, _], _ => rfl
  have df_Lcost : C8.Def K mg "_law_cost" s_Lcost f14 _ := ⟨F14, PySem.W.mg_of X G a14, k14⟩
  have bi_Lcost := b14
  have F15 : C8.Fun K "_law_scale" "_law_scale" s_Lscale f15 _ := ⟨⟨oc15, od15, .none, kV15, dc15, pm15, an15, cd15, ct15, sl15, rfl, l15, c15⟩⟩
  have b15 : Binds K _ ["_law_cell_here"] [] := F15.binds rfl (ps := ["_law_cell_here"]) fun _ _ _ _ _ _ us hl => match us, hl with | [_], _ => rfl
  have df_Lscale : C8.Def K mg "_law_scale" s_Lscale f15 _ := ⟨F15, PySem.W.mg_of X G a15, k15⟩
  have bi_Lscale := b15
  have F16 : C8.Fun K "_law_first" "_law_first" s_Lfirst f16 _ := ⟨⟨oc16, od16, .none, kV16, dc16, pm16, an16, cd16, ct16, sl16, rfl, l16, c16⟩⟩
  have b16 : Binds K _ ["_law_bound_here", "_law_visits"] [] := F16.binds rfl (ps := ["_law_bound_here", "_law_visits"]) fun _ _ _ _ _ _ us hl => match us, hl with | [_, _], _ => rfl
  have df_Lfirst : C8.Def K mg "_law_first" s_Lfirst f16 _ := ⟨F16, PySem.W.mg_of X G a16, k16⟩
  have bi_Lfirst := b16
  have F17 : C8.Fun K "_law_right" "_law_right" s_Lright f17 _ := ⟨⟨oc17, od17, .none, kV17, dc17, pm17, an17, cd17, ct17, sl17, rfl, l17, c17⟩⟩
  have b17 : Binds K _ ["_law_found", "_law_due"] [] := F17.binds rfl (ps := ["_law_found", "_law_due"]) fun _ _ _ _ _ _ us hl => match us, hl with | [_, _], _ => rfl
  have df_Lright : C8.Def K mg "_law_right" s_Lright f17 _ := ⟨F17, PySem.W.mg_of X G a17, k17⟩
  have bi_Lright := b17
  have F18 : C8.Fun K "law" "law" s_law f18 _ := ⟨⟨oc18, od18, .none, kV18, dc18, pm18, an18, cd18, ct18, sl18, rfl, l18, c18⟩⟩
  have b18 : Binds K _ ["_law_script"] [] := F18.binds rfl (ps := ["_law_script"]) fun _ _ _ _ _ _ us hl => match us, hl with | [_], _ => rfl
  have df_law : C8.Def K mg "law" s_law f18 _ := ⟨F18, PySem.W.mg_of X G a18, k18⟩
  have bi_law := b18
  have lB := l8
  rw [hcB] at lB
  have ccB := c8
  rw [hcB] at ccB
  have bB := b8
  rw [hcB] at bB
  have tb : PySem.W.tabIn K "broken" = some (cB, P0) := by
    unfold PySem.W.tabIn
    rw [a8]
    show (match K.lookup f8 with | some ⟨_, _, .func fd, _⟩ => _ | _ => none) = _
    rw [lB]
    show (match K.lookup cB with | some ⟨_, _, .fields vs, _⟩ => _ | _ => none) = _
    rw [lcB]
    show (match (vsB[11]? : Option Value) with | some (.ref P) => some (cB, P) | _ => none) = _
    rw [vB]
  have brkAt : BrkAt K mg cB := ⟨⟨f8, oc8, od8, kV8, dc8, pm8, an8, ct8, sl8, lB, ccB, PySem.W.mg_of X G a8, k8, bB⟩⟩
  refine ⟨PySem.W.fnOf "law" "law" (C8.fnArgs s_law) (C8.fnBody s_law) (C8.fnScope s_law) .none kV18 dc18 pm18 an18 cd18 ct18, cB, P0, tb, nB, fun s v => .of_eq rfl, fun base _ _ TB => ?_⟩
  have c_is := cal_is_within (P := l.prog) (w := w) (base := base) (mg := mg) T df_is_within bi_is_within
  have makJ := mak_Jar (P := l.prog) (w := w) (base := base) (mg := mg) Gc kl_Jar c_is M_Jar mg_Jar fn_Jar_init bi_Jar_init
  have makW := mak_Window (P := l.prog) (w := w) (base := base) (mg := mg) Gc kl_Window c_is M_Window mg_Window fn_Window_init bi_Window_init
  have rJ := met_Jar_room (P := l.prog) (w := w) (base := base) (mg := mg) kl_Jar me_Jar_room fn_Jar_room bi_Jar_room
  have rW := met_Window_room (P := l.prog) (w := w) (base := base) (mg := mg) kl_Window me_Window_room fn_Window_room bi_Window_room
  have tots := cal_totals_ahead (P := l.prog) (w := w) (base := base) (mg := mg) df_totals_ahead bi_totals_ahead
  have fsJ := cal_first_start (P := l.prog) (w := w) (base := base) (mg := mg) T (fun cl => nok_excess rJ cl) df_first_start bi_first_start
  have fsW := cal_first_start (P := l.prog) (w := w) (base := base) (mg := mg) T (fun cl => nok_excess rW cl) df_first_start bi_first_start
  have brk := cal_broken (P := l.prog) (w := w) (base := base) (mg := mg) T rJ rW tots fsJ fsW TB brkAt
  have cell := cal_Lcell (P := l.prog) (w := w) (base := base) (mg := mg) T df_Lcell bi_Lcell
  have scl := cal_Lscale (P := l.prog) (w := w) (base := base) (mg := mg) df_Lscale bi_Lscale
  have gap := cal_Lgap (P := l.prog) (w := w) (base := base) (mg := mg) df_Lgap bi_Lgap
  have cst := cal_Lcost (P := l.prog) (w := w) (base := base) (mg := mg) T df_Lcost bi_Lcost
  have bnd := cal_Lbound (P := l.prog) (w := w) (base := base) (mg := mg) T df_Lbound bi_Lbound
  have made := cal_Lmade (P := l.prog) (w := w) (base := base) (mg := mg) makJ makW df_Lmade bi_Lmade
  have room := cal_Lroom (P := l.prog) (w := w) (base := base) (mg := mg) df_Lroom bi_Lroom
  have first := cal_Lfirst (P := l.prog) (w := w) (base := base) (mg := mg) T room df_Lfirst bi_Lfirst
  have right := cal_Lright3 (P := l.prog) (w := w) (base := base) (mg := mg) T df_Lright bi_Lright
  exact ok_law T df_law.fn cell scl gap cst bnd made brk first right
theorem walk3 {l : PySem.W.OpenLaw} {q : Program} {loose : List Str} {XP : (Str → Option Value) → Heap → Prop} {YP : World → Heap → Prop} {d dB : DefRec} {K : Params → PySem.W.Frag} (hn : l.most = some 63) (hdf : d.params.defaults = []) (hrec : (recsOf q).find? (fun e => e.name == ("broken" : Str)) = some dB)
    (hY : ∀ (w : World) (h : Heap), YP w h → (K w.params).In h)
    (F : ∀ (w : World) (mg : Str → Option Value) (fa : Addr) (h : Heap), (K w.params).In h → h.Ns mainGlobals mg → mg d.name = some (.ref fa) →
      ∃ (fd : FuncData) (cB P0 : Addr), PySem.W.tabIn (K w.params) "broken" = some (cB, P0) ∧ (K w.params).lookup P0 = none ∧ (∀ (s : Shared) (v : Value), BindsTo s fd ⟨[v], []⟩ [("_law_script", v)]) ∧ ∀ base : Heap, (K w.params).In base → base.Ns mainGlobals mg → LamX.TabB base mg cB P0 →
        FnOk l.prog w (K w.params) mg base C8.CX0 5 fa fd ["_law_script"] (spLaw3 [(P0, fun _ _ => qE)] (K w.params))) :
    PySem.W.WalkO q loose XP YP l.row.toRowW d [] (fun f vs => PySem.call f vs) := by
  refine Att.attach_callB hn hdf fun w s0 s1 mg mb fa o pm cd doc a vs ns G Y ho hd hcd hmg hobj hints hlen hbits hg => ?_
  have KX := hY w _ Y
  obtain ⟨fd, cB, P0, ht, nP, hb, hF⟩ := F w mg fa _ KX G.T.g hmg
  obtain ⟨code, tab⟩ := PySem.W.tab_of G.T KX hrec ht
  have one : ∀ {φ : Addr × Addr → Prop}, φ (cB, P0) → ∀ p ∈ [(cB, P0)], φ p := fun h p hp => by
    rw [List.mem_singleton.mp hp]
    exact h
  refine LamX.law_callTs (cs := [(cB, P0)]) (k := 5) (x := "_law_script") (CX := C8.CX0) KX G.T.g G.T.b G.T.builtins G.T.nolimit hg (one tab) (one nP) (one code) G.T.bmain hobj hints (Nat.le_trans hlen (by decide)) ⟨rfl, by decide, by decide⟩ (fun base k1 k2 k3 => hF base k1 k2 (k3 _ (List.mem_singleton.mpr rfl))) hb (fun H hH hS => ?_) fun _ _ _ z => z
  exact ⟨a, ns, rfl, hS, hlen, fun p hp => by
    rw [List.mem_singleton.mp hp]
    exact NdefX.TabN.nil (hH (cB, P0) (List.mem_singleton.mpr rfl)), fun _ => rfl⟩
end
end Tk
open PySem PySem.W PyProof.Rows
set_option maxRecDepth 100000 in
set_option maxHeartbeats 0 in
theorem PySem.Challenge.cw_turnstile_k03_whole_first_broken_holds : PySem.Challenge.rw_turnstile_k03_whole_first_broken.Holds := by
  w_on; o_law; k_head; (case hw => w_witness2)
  k_fill
  refine Tk.walk3 (l := PySem.Challenge.rw_turnstile_k03_whole_first_broken) rfl rfl (by exact rfl) (fun w h Y => PySem.W.km_in_of Y) ?F
  case F =>
    intro w mg fa h KX G hmg
    refine' Tk.all_mk KX G hmg ?z_len ?z_range ?z_min ?z_int ?z_bool ?z_tuple ?z_list ?z_reversed ?z_isinstance ?g_LARGEST_SIZE ?g_LARGEST_FLOW ?g_LARGEST_MOST ?g_LARGEST_SPAN ?aC_Jar ?pg_Jar ?hd_Jar ?po_Jar ?sa_Jar ?mk_Jar ?kc_Jar ?n_Jar_0 ?n_Jar_1 ?a1 ?l1 ?c1 ?k1 ?i1 ?a2 ?l2 ?c2 ?k2 ?i2 ?aC_Window ?pg_Window ?hd_Window ?po_Window ?sa_Window ?mk_Window ?kc_Window ?n_Window_0 ?n_Window_1 ?a3 ?l3 ?c3 ?k3 ?i3 ?a4 ?l4 ?c4 ?k4 ?i4 ?a5 ?l5 ?c5 ?k5 ?a6 ?l6 ?c6 ?k6 ?a7 ?l7 ?c7 ?k7 ?a8 ?l8 ?c8 ?k8 ?a9 ?l9 ?c9 ?k9 ?a10 ?l10 ?c10 ?k10 ?a11 ?l11 ?c11 ?k11 ?a12 ?l12 ?c12 ?k12 ?a13 ?l13 ?c13 ?k13 ?a14 ?l14 ?c14 ?k14 ?a15 ?l15 ?c15 ?k15 ?a16 ?l16 ?c16 ?k16 ?a17 ?l17 ?c17 ?k17 ?a18 ?l18 ?c18 ?k18 ?hcB ?lcB ?vB ?nB
    (case z_len => k_is)
    (case z_range => k_is)
    (case z_min => k_is)
    (case z_int => k_is)
    (case z_bool => k_is)
    (case z_tuple => k_is)
    (case z_list => k_is)
    (case z_reversed => k_is)
    (case z_isinstance => k_is)
    (case g_LARGEST_SIZE => k_is)
    (case g_LARGEST_FLOW => k_is)
    (case g_LARGEST_MOST => k_is)
    (case g_LARGEST_SPAN => k_is)
    (case aC_Jar => k_is)
    (case pg_Jar => k_is)
    (case hd_Jar => k_is)
    (case po_Jar => k_is)
    (case sa_Jar => k_is)
    (case mk_Jar => k_is)
    (case kc_Jar => k_is)
    (case n_Jar_0 => k_is)
    (case n_Jar_1 => k_is)
    (case a1 => k_is)
    (case l1 => k_is)
    (case c1 => k_is)
    (case k1 => k_is)
    (case i1 => k_is)
    (case a2 => k_is)
    (case l2 => k_is)
    (case c2 => k_is)
    (case k2 => k_is)
    (case i2 => k_is)
    (case aC_Window => k_is)
    (case pg_Window => k_is)
    (case hd_Window => k_is)
    (case po_Window => k_is)
    (case sa_Window => k_is)
    (case mk_Window => k_is)
    (case kc_Window => k_is)
    (case n_Window_0 => k_is)
    (case n_Window_1 => k_is)
    (case a3 => k_is)
    (case l3 => k_is)
    (case c3 => k_is)
    (case k3 => k_is)
    (case i3 => k_is)
    (case a4 => k_is)
    (case l4 => k_is)
    (case c4 => k_is)
    (case k4 => k_is)
    (case i4 => k_is)
    (case a5 => k_is)
    (case l5 => k_is)
    (case c5 => k_is)
    (case k5 => k_is)
    (case a6 => k_is)
    (case l6 => k_is)
    (case c6 => k_is)
    (case k6 => k_is)
    (case a7 => k_is)
    (case l7 => k_is)
    (case c7 => k_is)
    (case k7 => k_is)
    (case a8 => k_is)
    (case l8 => k_is)
    (case c8 => k_is)
    (case k8 => k_is)
    (case a9 => k_is)
    (case l9 => k_is)
    (case c9 => k_is)
    (case k9 => k_is)
    (case a10 => k_is)
    (case l10 => k_is)
    (case c10 => k_is)
    (case k10 => k_is)
    (case a11 => k_is)
    (case l11 => k_is)
    (case c11 => k_is)
    (case k11 => k_is)
    (case a12 => k_is)
    (case l12 => k_is)
    (case c12 => k_is)
    (case k12 => k_is)
    (case a13 => k_is)
    (case l13 => k_is)
    (case c13 => k_is)
    (case k13 => k_is)
    (case a14 => k_is)
    (case l14 => k_is)
    (case c14 => k_is)
    (case k14 => k_is)
    (case a15 => k_is)
    (case l15 => k_is)
    (case c15 => k_is)
    (case k15 => k_is)
    (case a16 => k_is)
    (case l16 => k_is)
    (case c16 => k_is)
    (case k16 => k_is)
    (case a17 => k_is)
    (case l17 => k_is)
    (case c17 => k_is)
    (case k17 => k_is)
    (case a18 => k_is)
    (case l18 => k_is)
    (case c18 => k_is)
    (case k18 => k_is)
    (case hcB => exact rfl)
    (case lcB => k_is)
    (case vB => exact rfl)
    (case nB => kernel_rfl)
#print axioms PySem.Challenge.cw_turnstile_k03_whole_first_broken_holds
