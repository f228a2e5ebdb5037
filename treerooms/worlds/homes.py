"""The own web of a core, and how its words and those of the web are led to one another."""

from treerooms.base.lots import few_makers
from treerooms.base.rooms import Room
from treerooms.webs.walks import plain_walk
from treerooms.webs.webs import MadeWeb
from treerooms.worlds.frames import step_along


def rooms_of_lots(web, frame):
    """For each lot the room of the members that leave its least spot."""
    # Many lots are left by the same members.
    known = {}
    rooms = []
    for lot in frame.lots:
        if (lot.point, lot.stays) not in known:
            room = web.rooms[lot.point]
            makers = tuple([room.members[maker] for maker in few_makers(room, lot.stays)])
            known[(lot.point, lot.stays)] = Room(room.points, makers)
        rooms.append(known[(lot.point, lot.stays)])
    return tuple(rooms)


def number_turned(web, lot, member, by):
    """The number, in the room of the lot, of the member turned by another one."""
    room = web.rooms[lot.point]
    return lot.stays.index(room.table[room.table[by][member]][room.contraries[by]])


def tie_of_block(web, frame, block):
    """The tie of the own web that is made of a block."""
    begin, end, pairs = web.ties[block.tie - 1]
    source, target = frame.lots[block.source], frame.lots[block.target]
    row = frame.world.moves[begin]
    staying = [(member, carried) for member, carried in pairs if row[member][block.spot] == block.spot]
    own_pairs = [
        (number_turned(web, source, member, block.spot_lead), number_turned(web, target, carried, block.goal_lead))
        for member, carried in staying
    ]
    return block.source, block.target, tuple(sorted(own_pairs))


def web_of_frame(frame):
    """The own web of the stock with this core."""
    web = frame.world.web
    return MadeWeb(rooms_of_lots(web, frame), tuple([tie_of_block(web, frame, block) for block in frame.blocks]))


def word_led_out(frame, word):
    """The plain word of the web to which a word of the own web is led."""
    web = frame.world.web
    road = [frame.lots[0].stays[word[0]]]
    home, point = 0, 0
    for at in range(1, len(word), 2):
        way = 1 if word[at] > 0 else -1
        block = frame.blocks[abs(word[at]) - 1]
        ahead, tie, behind = step_along(web, frame, abs(word[at]) - 1, way)
        road[-1] = web.rooms[point].table[road[-1]][ahead]
        home = block.target if way == 1 else block.source
        point = frame.lots[home].point
        road.extend([tie, web.rooms[point].table[behind][frame.lots[home].stays[word[at + 1]]]])
    return plain_walk(web, tuple(road))


def word_led_home(frame, own, form):
    """The plain word of the own web that is led to a plain word of the stock."""
    web = frame.world.web
    road = []
    # The word is walked; what it takes up to here is the road, and then the member `rest` from a lot's least spot.
    home, point, rest = 0, 0, form[0]
    for at in range(1, len(form), 2):
        side = web.side(form[at])
        spot = frame.world.moves[point][rest][frame.lots[home].least]
        goal = frame.world.paired(form[at], spot)
        number, member, carried = frame.block_of(form[at], spot, goal)
        block = frame.blocks[number]
        ahead, behind = (block.spot_lead, block.goal_lead) if form[at] > 0 else (block.goal_lead, block.spot_lead)
        room = web.rooms[point]
        # From the block's least pair the pair (member, carried) leads to the one that is walked.
        lead = room.table[ahead][member]
        road.append(frame.lots[home].stays.index(room.table[rest][room.contraries[lead]]))
        road.append(number + 1 if form[at] > 0 else -number - 1)
        home, point = frame.homes[side.target][goal], side.target
        table = web.rooms[point].table
        rest = table[table[behind][carried]][form[at + 1]]
    return plain_walk(own, (*road, frame.lots[home].stays.index(rest)))
