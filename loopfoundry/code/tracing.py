"""Who made what the operands of a kernel read, however far away: traced back from writing to writing.

A *writer* is a tuple (slot, place, ticks, window, least, greatest, what): the row of an instruction and
its place there, the ticks until it writes, the window that it writes, the least and the greatest pass
in which it takes place (None for no bound), and what it is: an operation with its stage, or the window
that a move reads.
"""

from loopfoundry.code.playing import first_round


class Tracer:
    """What writes the registers and the save cells of a kernel in a run of so many rounds, or of endlessly many.

    For None as rounds the run has no first round either.
    """

    def __init__(self, kernel, rounds):
        self.sizes = (kernel.registers, kernel.cells)
        self.turn = kernel.interval
        job, saving, reloading = kernel.job, kernel.job.machine.save[0], kernel.job.machine.reload[0]
        self.writers = ([], [])
        for slot, row in enumerate(kernel.rows):
            for place, instruction in enumerate(row):
                if instruction[0] == "save":
                    _, source, cell = instruction
                    self.writers[1].append((slot, place, saving, cell, None, None, (None, source)))
                elif instruction[0] == "reload":
                    _, cell, target = instruction
                    self.writers[0].append((slot, place, reloading, target, None, None, (None, cell)))
                elif instruction[3] is not None:
                    _, operation, stage, target, _, _ = instruction
                    least = None if rounds is None else first_round(job, operation) + stage
                    greatest = None if rounds is None else rounds - 1 + stage
                    row_told = (slot, place, job.ticks(operation), target, least, greatest, (operation, stage))
                    self.writers[0].append(row_told)
        # Up to this tick nothing is missed that a longer run would have written.
        ends = [row[0] + self.turn * (row[5] + 1) + row[2] for row in self.writers[0] if row[5] is not None]
        self.ending = min(ends, default=None)

    def last_writing(self, kind, place, tick):
        """The writing of a register, or of a save cell for the kind 1, that remains in a tick, or None.

        It is a tuple (tick of the writing, tick of the start, place in the row, pass, what).
        """
        best = None
        for slot, at, ticks, window, least, greatest, what in self.writers[kind]:
            number = (tick - ticks - slot) // self.turn
            if greatest is not None:
                number = min(number, greatest)
            number -= (window + number - place) % self.sizes[kind]
            if least is None or number >= least:
                start = slot + self.turn * number
                if best is None or (start + ticks, start, at) > best[:3]:
                    best = (start + ticks, start, at, number, what)
        return best

    def maker(self, window, number, tick):
        """The pair (operation, round) that a window of registers holds in a tick of a pass, or None."""
        seen, kind = {}, 0
        while True:
            writing = self.last_writing(kind, (window + number) % self.sizes[kind], tick)
            if writing is None:
                return None
            _, tick, _, number, (operation, told) = writing
            if operation is not None:
                return (operation, number - told)
            window = told
            if kind == 1 and (self.ending is None or tick < self.ending):
                # From here on back all goes on as it did: what comes back to a save comes from no operation.
                save = (writing[1] % self.turn, writing[2])
                if save in seen:
                    return None
                seen[save] = True
            kind = 1 - kind

