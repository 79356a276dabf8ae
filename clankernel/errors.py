"""The errors of the package: each stands directly below CoreError."""


class CoreError(ValueError):
    def __init__(self, value):
        self.value = value

class BadWord(CoreError):
    pass

class BadRow(CoreError):
    pass

class BadProgram(CoreError):
    pass

class BadWords(CoreError):
    pass

class BadMove(CoreError):
    pass

class BadCell(CoreError):
    pass

class BadNumber(CoreError):
    pass

class BadValue(CoreError):
    pass

class BadMemory(CoreError):
    pass

class BadSpaces(CoreError):
    pass

class NoTask(CoreError):
    pass

class BadBlock(CoreError):
    pass

class BadSpot(CoreError):
    pass

class BadLetters(CoreError):
    pass

class BadOwn(CoreError):
    pass

class BadTasks(CoreError):
    pass

class NoPage(CoreError):
    pass

class NoFrame(CoreError):
    pass

class OtherPages(CoreError):
    pass

class BadTables(CoreError):
    pass

class BadAddress(CoreError):
    pass

class BadCourse(CoreError):
    pass

class BadEmpties(CoreError):
    pass

class BadRights(CoreError):
    pass

class NoPlace(CoreError):
    pass

class NoThing(CoreError):
    pass

class Held(CoreError):
    pass

class Full(CoreError):
    pass

class Empty(CoreError):
    pass

class NoGate(CoreError):
    pass

class Badged(CoreError):
    pass

class BadBadge(CoreError):
    pass

class NotLet(CoreError):
    pass

class BadLot(CoreError):
    pass

class Spent(CoreError):
    pass

class NoRight(CoreError):
    pass

class BadDeeds(CoreError):
    pass

class Refused(CoreError):
    pass

class BadWaits(CoreError):
    pass

class NoThread(CoreError):
    pass

class NotReady(CoreError):
    pass

class BadTo(CoreError):
    pass

class BadLimit(CoreError):
    pass

class BadSource(CoreError):
    pass

class NoReply(CoreError):
    pass

class NotWaited(CoreError):
    pass

class NotWaiting(CoreError):
    pass

class BadItems(CoreError):
    pass

class BadRows(CoreError):
    pass

class BadMany(CoreError):
    pass

class BadResult(CoreError):
    pass

class BadTold(CoreError):
    pass

class BadAccesses(CoreError):
    pass

class BadFault(CoreError):
    pass

class BadPlace(CoreError):
    pass

class BadDevices(CoreError):
    pass

class NoDevice(CoreError):
    pass

class BadGate(CoreError):
    pass

class BadGates(CoreError):
    pass

class Quiet(CoreError):
    pass

class BadInputs(CoreError):
    pass

class BadTurns(CoreError):
    pass

class Same(CoreError):
    pass

class IsReady(CoreError):
    pass

class NotResting(CoreError):
    pass

class Taken(CoreError):
    pass

class BadTruth(CoreError):
    pass

class NoCaller(CoreError):
    pass

class BadPriority(CoreError):
    pass

class BadThreads(CoreError):
    pass

class BadTicks(CoreError):
    pass

class BadLoads(CoreError):
    pass

class BadAsks(CoreError):
    pass

class NoJob(CoreError):
    pass

class BadWithin(CoreError):
    pass

class BadClans(CoreError):
    pass

class BadBorder(CoreError):
    pass

class Root(CoreError):
    pass

class BadFrames(CoreError):
    pass

class BadPage(CoreError):
    pass

class BadFrame(CoreError):
    pass

class Here(CoreError):
    pass

class Fresh(CoreError):
    pass

class BadWay(CoreError):
    pass

class BadServer(CoreError):
    pass

class BadCalls(CoreError):
    pass

class BadRoads(CoreError):
    pass

class Stuck(CoreError):
    pass

class Gone(CoreError):
    pass

class BadHabits(CoreError):
    pass

class Ring(CoreError):
    pass

class BadSystem(CoreError):
    pass

class Late(CoreError):
    pass

class BadEvents(CoreError):
    pass

class BadImage(CoreError):
    pass

class NothingToUndo(CoreError):
    pass

class NothingToRedo(CoreError):
    pass

class NoTrial(CoreError):
    pass

class NoSystem(CoreError):
    pass

class BadJournal(CoreError):
    pass

class BadLine(CoreError):
    pass

class OtherTasks(CoreError):
    pass
